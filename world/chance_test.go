package world_test

import (
	"math/rand"
	"regexp"
	"slices"
	"strconv"
	"strings"
	"testing"

	"rewind/api"
	"rewind/world"
)

// shape: the chapter's words of a text, with numbers as ints are told, however great.
var shape = regexp.MustCompile(`\Asteps (0|-?[1-9][0-9]*)( (0|-?[1-9][0-9]*))*\n\z`)

// oracle: what Parse answers of a text, by its shape and then number by number.
func oracle(text string) (world.World, api.Errno) {
	if !shape.MatchString(text) {
		return world.World{}, api.ErrParse
	}
	var w world.World
	for i, s := range strings.Fields(text)[1:] {
		n, err := strconv.ParseInt(s, 10, 64)
		switch {
		case err != nil:
			return world.World{}, api.ErrParse
		case i == 0:
			w.Steps = int(n)
		default:
			w.Inputs = append(w.Inputs, int(n))
		}
	}
	if w.Steps < 0 || w.Steps > 100000 || len(w.Inputs) > mostInputs {
		return world.World{}, api.ErrRange
	}
	return w, api.OK
}

// wantAsOracle tells the error of a text.
func wantAsOracle(t *testing.T, text string) api.Errno {
	t.Helper()
	want, fault := oracle(text)
	w, e := world.Parse(text)
	if e != fault || !same(w, want) {
		t.Errorf("P12.1: Parse(%q): %v, %d, want %v, %d", text, w, e, want, fault)
	}
	if e == api.OK && w.Text() != text {
		t.Errorf("P12.2: what was parsed of %q has the text %q", text, w.Text())
	}
	return e
}

// All texts of a few bytes, behind what a text begins with.
func TestAllSmallTexts(t *testing.T) {
	const bytes = "019- \n+s"
	var behind func(text string, more int)
	behind = func(text string, more int) {
		wantAsOracle(t, text)
		for i := 0; i < len(bytes) && more > 0; i++ {
			behind(text+bytes[i:i+1], more-1)
		}
	}
	behind("", 3)
	behind("steps", 4)
	behind("steps ", 5)
	behind("steps 7", 5)
	behind("steps 10000", 4)
}

func worldByChance(r *rand.Rand) world.World {
	w := world.World{Steps: r.Intn(100001)}
	size := r.Intn(6)
	if r.Intn(20) == 0 {
		size = mostInputs - r.Intn(3)
	}
	for range size {
		w.Inputs = append(w.Inputs, int(r.Uint64())>>r.Intn(64))
	}
	return w
}

func TestWorldsByChance(t *testing.T) {
	r := rand.New(rand.NewSource(12))
	for range 3000 {
		w := worldByChance(r)
		text := "steps " + strconv.Itoa(w.Steps)
		for _, n := range w.Inputs {
			text += " " + strconv.Itoa(n)
		}
		wantGood(t, w, text+"\n")
	}
}

// Texts of worlds, of which a few bytes are changed, put in, or left out.
func TestTextsByChance(t *testing.T) {
	r := rand.New(rand.NewSource(21))
	const bytes = "0123456789-- \n+steps\t\r\x00\xff"
	ends := map[api.Errno]int{}
	for range 60000 {
		w := worldByChance(r)
		b := []byte(w.Text())
		for range 1 + r.Intn(3) {
			at := r.Intn(len(b))
			c := bytes[r.Intn(len(bytes))]
			switch r.Intn(3) {
			case 0:
				b[at] = c
			case 1:
				b = slices.Insert(b, at, c)
			case 2:
				b = append(slices.Delete(b, at, at+1), '\n')
			}
		}
		ends[wantAsOracle(t, string(b))]++
	}
	for _, e := range []api.Errno{api.OK, api.ErrParse, api.ErrRange} {
		if ends[e] < 300 {
			t.Errorf("of %d there are %d texts", e, ends[e])
		}
	}
}

// Tapes that are taken and gone about by chance, against a list and a place.
func TestTapesByChance(t *testing.T) {
	r := rand.New(rand.NewSource(1212))
	for range 300 {
		w := worldByChance(r)
		all, at := slices.Clone(w.Inputs), 0
		tape := opened(t, w.Inputs...)
		for range 40 {
			switch r.Intn(3) {
			case 0:
				if at < len(all) {
					wantTake(t, tape, all[at], api.OK)
					at++
				} else {
					wantTake(t, tape, 0, api.ErrInput)
				}
			case 1:
				to, want := r.Intn(len(all)+5)-2, api.ErrRange
				if to >= 0 && to <= len(all) {
					at, want = to, api.OK
				}
				if e := tape.Go(to); e != want {
					t.Fatalf("P12.1: Go(%d) of %d inputs: %d, want %d", to, len(all), e, want)
				}
			}
			wantTape(t, tape, at, all[at:]...)
		}
	}
}

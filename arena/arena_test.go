package arena

import (
	"math"
	"math/rand"
	"slices"
	"strconv"
	"testing"
)

type pair struct {
	name string
	at   int
}

// wantArena: an arena has these things, at their places, and no others.
func wantArena[T comparable](t *testing.T, a *Arena[T], want ...T) {
	t.Helper()
	if a.Len() != len(want) {
		t.Errorf("P3.1: Len: %d, want %d", a.Len(), len(want))
	}
	if got := a.All(); !slices.Equal(got, want) {
		t.Errorf("P3.1: All: %v, want %v", got, want)
	}
	for at, x := range want {
		if got, ok := a.Get(at); got != x || !ok {
			t.Errorf("P3.1: Get(%d): %v, %t, want %v", at, got, ok, x)
		}
	}
	var zero T
	for _, at := range []int{len(want), len(want) + 1, math.MaxInt, -1, -2, -len(want), -len(want) - 1, math.MinInt} {
		if at >= 0 && at < len(want) {
			continue
		}
		if got, ok := a.Get(at); got != zero || ok {
			t.Errorf("P3.1: Get(%d) of %d things: %v, %t, want its zero and false", at, len(want), got, ok)
		}
	}
}

// putAll puts things into a zero arena, and looks at all of it behind each.
func putAll[T comparable](t *testing.T, things ...T) *Arena[T] {
	t.Helper()
	var a Arena[T]
	wantArena(t, &a)
	for i, x := range things {
		if at := a.Put(x); at != i {
			t.Errorf("P3.1: Put(%v): %d, want %d", x, at, i)
		}
		wantArena(t, &a, things[:i+1]...)
	}
	return &a
}

func TestArenaOfNumbers(t *testing.T) {
	putAll(t, 7, 0, -7, 7, math.MaxInt, math.MinInt, 3)
}

func TestArenaOfStrings(t *testing.T) {
	putAll(t, "y", "", "x", "y", "é\xff", "z")
}

func TestArenaOfStructs(t *testing.T) {
	putAll(t, pair{"b", 1}, pair{}, pair{"a", -1}, pair{"b", 1}, pair{"b", 2})
}

func TestArenaOfPointers(t *testing.T) {
	x, y := new(int), new(int)
	putAll(t, x, nil, y, x)
}

func TestArenaOfMany(t *testing.T) {
	var a Arena[int]
	var want []int
	for i := range 5000 {
		if at := a.Put(i * i); at != i {
			t.Fatalf("P3.1: Put: %d, want %d", at, i)
		}
		want = append(want, i*i)
	}
	wantArena(t, &a, want...)
}

func TestArenasAreApart(t *testing.T) {
	var a, b Arena[string]
	a.Put("x")
	a.Put("y")
	if at := b.Put("z"); at != 0 {
		t.Errorf("P3.1: Put into another arena: %d, want 0", at)
	}
	wantArena(t, &a, "x", "y")
	wantArena(t, &b, "z")
}

func TestAllAnswersNewMemory(t *testing.T) {
	for n := range 20 {
		var a Arena[int]
		var want []int
		for i := range n {
			a.Put(i + 1)
			want = append(want, i+1)
		}
		first, second := a.All(), a.All()
		for i := range first[:cap(first)] {
			first[:cap(first)][i] = -7
		}
		if !slices.Equal(second, want) {
			t.Fatalf("P7: All of %d: two answers share memory: %v", n, second)
		}
		wantArena(t, &a, want...)
		// What is put later mustn't be seen in the spare room of an earlier answer, nor be overwritten by it.
		a.Put(n + 1)
		third := append(second, -7)
		wantArena(t, &a, append(want, n+1)...)
		if third[n] != -7 {
			t.Fatalf("P7: All of %d: an answer's spare room is the arena's", n)
		}
		a.Put(n + 2)
		if !slices.Equal(second, want) || third[n] != -7 {
			t.Fatalf("P7: All of %d: Put changed an answer", n)
		}
	}
}

// model is a shelf told once more: of each number that is there, when it was asked.
type model struct {
	room, clock, fetched int
	asked                map[int]int
}

func newModel(room int) *model { return &model{room: room, asked: map[int]int{}} }

// ask tells whether a number must be fetched.
func (m *model) ask(k int) bool {
	m.clock++
	_, there := m.asked[k]
	if !there {
		m.fetched++
		if len(m.asked) == m.room {
			delete(m.asked, m.oldest())
		}
	}
	m.asked[k] = m.clock
	return !there
}

func (m *model) oldest() int {
	oldest, when := 0, math.MaxInt
	for k, at := range m.asked {
		if at < when {
			oldest, when = k, at
		}
	}
	return oldest
}

func (m *model) drop() { *m = *newModel(m.room) }

// askAs asks a shelf and its model, and holds them against each other; each fetch answers something else.
func askAs(t *testing.T, s *Shelf[string], m *model, things map[int]string, k int) {
	t.Helper()
	var calls []int
	x := s.Ask(k, func(got int) string {
		calls = append(calls, got)
		return strconv.Itoa(got) + "." + strconv.Itoa(m.clock)
	})
	fresh := strconv.Itoa(k) + "." + strconv.Itoa(m.clock)
	var want []int
	if m.ask(k) {
		want = []int{k}
		things[k] = fresh
	}
	if !slices.Equal(calls, want) {
		t.Fatalf("P3.1: Ask(%d): fetch was called with %v, want %v", k, calls, want)
	}
	if x != things[k] {
		t.Fatalf("P3.1: Ask(%d): %s, want %s", k, x, things[k])
	}
}

// wantShelf: a shelf has just what its model has, of the numbers that are told.
func wantShelf[T any](t *testing.T, s *Shelf[T], m *model, numbers []int) {
	t.Helper()
	if s.Len() > m.room {
		t.Fatalf("P3.2: %d things, room for %d", s.Len(), m.room)
	}
	if s.Len() != len(m.asked) || s.Fetched() != m.fetched {
		t.Fatalf("P3.1: Len %d, Fetched %d, want %d, %d", s.Len(), s.Fetched(), len(m.asked), m.fetched)
	}
	for _, k := range numbers {
		if _, want := m.asked[k]; s.Has(k) != want {
			t.Fatalf("P3.1: Has(%d): %t, want %t", k, s.Has(k), want)
		}
	}
}

// upTo: the numbers from -1 up to one, and the edges of int.
func upTo(n int) []int {
	out := []int{math.MinInt, math.MinInt + 1, math.MaxInt - 1, math.MaxInt}
	for k := -1; k <= n; k++ {
		out = append(out, k)
	}
	return out
}

// askInOrder asks numbers, and looks at the shelf behind each.
func askInOrder(t *testing.T, s *Shelf[string], m *model, numbers ...int) {
	t.Helper()
	things := map[int]string{}
	for _, k := range numbers {
		askAs(t, s, m, things, k)
		wantShelf(t, s, m, append(upTo(8), numbers...))
	}
}

func TestShelfOfNone(t *testing.T) {
	wantShelf(t, Room[string](3), newModel(3), upTo(8))
}

func TestExampleRoomForOne(t *testing.T) {
	s := Room[int](1)
	var calls []int
	for _, k := range []int{5, 6, 5} {
		x := s.Ask(k, func(k int) int { calls = append(calls, k); return 10 * k })
		if x != 10*k || s.Len() != 1 || !s.Has(k) || s.Has(11-k) {
			t.Errorf("P3.1: Ask(%d): %d, Len %d", k, x, s.Len())
		}
	}
	if !slices.Equal(calls, []int{5, 6, 5}) || s.Fetched() != 3 {
		t.Errorf("P3.1: room 1, asked 5, 6, 5: fetched %v (%d), want three", calls, s.Fetched())
	}
}

func TestWhatIsThereIsNotFetchedAgain(t *testing.T) {
	s := Room[string](2)
	s.Ask(1, func(int) string { return "first" })
	for range 3 {
		x := s.Ask(1, func(int) string { t.Error("P3.1: fetched again"); return "again" })
		if x != "first" || s.Len() != 1 || s.Fetched() != 1 {
			t.Errorf("P3.1: Ask: %s, Len %d, Fetched %d", x, s.Len(), s.Fetched())
		}
	}
	if x := s.Ask(1, nil); x != "first" {
		t.Errorf("P3.1: Ask without a fetch, of what is there: %s", x)
	}
}

func TestTheOneAskedLongestAgoGoes(t *testing.T) {
	for _, l := range [][]int{
		{1, 2, 3, 4, 1},
		{1, 2, 3, 1, 4, 2, 5},
		{1, 2, 3, 2, 4, 1, 3},
		{1, 2, 3, 3, 4, 1},
		{1, 2, 3, 1, 2, 3, 4, 5, 6},
		{3, 2, 1, 3, 4, 2, 1},
		{1, 1, 1, 2, 2, 3, 4},
	} {
		askInOrder(t, Room[string](3), newModel(3), l...)
	}
	s := Room[int](2)
	same := func(k int) int { return k }
	for _, k := range []int{1, 2, 1, 3} {
		s.Ask(k, same)
	}
	if !s.Has(1) || s.Has(2) || !s.Has(3) {
		t.Error("P3.1: room 2, asked 1, 2, 1, 3: 2 must go")
	}
}

func TestHasDoesNotAsk(t *testing.T) {
	s := Room[int](2)
	same := func(k int) int { return k }
	s.Ask(1, same)
	s.Ask(2, same)
	if !s.Has(1) || s.Has(3) || s.Len() != 2 || s.Fetched() != 2 {
		t.Error("P3.1: Has")
	}
	s.Ask(3, same)
	if s.Has(1) || !s.Has(2) || !s.Has(3) {
		t.Error("P3.1: Has asked 1: it was asked the longest time ago, and must go")
	}
}

func TestNumbersBelowZeroAndTheEdgesOfInt(t *testing.T) {
	l := []int{0, -1, math.MinInt, math.MaxInt, -1, 0, 1, math.MinInt + 1, math.MaxInt - 1, math.MaxInt, math.MinInt, 0}
	for room := 1; room <= 9; room++ {
		askInOrder(t, Room[string](room), newModel(room), l...)
	}
}

func TestRoom(t *testing.T) {
	for _, c := range []struct{ n, room int }{
		{math.MinInt, 1}, {-1000, 1}, {-1, 1}, {0, 1}, {1, 1}, {2, 2}, {3, 3}, {500, 500},
		{999, 999}, {1000, 1000}, {1001, 1000}, {2000, 1000}, {math.MaxInt, 1000},
	} {
		s, m := Room[string](c.n), newModel(c.room)
		things := map[int]string{}
		for k := range c.room + 3 {
			askAs(t, s, m, things, k)
			if s.Len() != min(k+1, c.room) {
				t.Fatalf("P3.2: Room(%d): %d things, want %d", c.n, s.Len(), min(k+1, c.room))
			}
		}
		wantShelf(t, s, m, upTo(c.room+5))
	}
}

func TestRoomForThousand(t *testing.T) {
	s, m := Room[string](1000), newModel(1000)
	things := map[int]string{}
	for k := range 1000 {
		askAs(t, s, m, things, k)
	}
	for k := 999; k >= 0; k -= 3 {
		askAs(t, s, m, things, k)
	}
	for k := 1000; k < 1800; k++ {
		askAs(t, s, m, things, k)
	}
	wantShelf(t, s, m, upTo(2000))
}

func TestDrop(t *testing.T) {
	for _, room := range []int{1, 2, 5, 1000} {
		s, m := Room[string](room), newModel(room)
		s.Drop()
		wantShelf(t, s, m, upTo(8))
		for range 3 {
			askInOrder(t, s, m, 1, 2, 3, 1, 4)
			s.Drop()
			m.drop()
			wantShelf(t, s, m, upTo(8))
		}
		// The room is the same still.
		things := map[int]string{}
		for k := range room + 2 {
			askAs(t, s, m, things, k)
		}
		wantShelf(t, s, m, upTo(room+5))
	}
}

func TestShelvesAreApart(t *testing.T) {
	a, b := Room[int](2), Room[int](2)
	a.Ask(1, func(int) int { return 1 })
	if b.Has(1) || b.Len() != 0 || b.Fetched() != 0 {
		t.Error("P3.1: a shelf has what another was asked")
	}
	if x := b.Ask(1, func(int) int { return 2 }); x != 2 || a.Ask(1, nil) != 1 {
		t.Errorf("P3.1: two shelves: %d", x)
	}
}

func TestShelfOfStructsAndLists(t *testing.T) {
	s := Room[pair](1)
	fetch := func(k int) pair { return pair{"p", k} }
	if x := s.Ask(3, fetch); x != (pair{"p", 3}) || s.Ask(3, nil) != x {
		t.Errorf("P3.1: Ask: %v", x)
	}
	l := Room[[]int](1)
	if x := l.Ask(3, func(k int) []int { return []int{k, k} }); !slices.Equal(x, []int{3, 3}) || !slices.Equal(l.Ask(3, nil), x) {
		t.Errorf("P3.1: Ask: %v", x)
	}
	// A thing that is its type's zero is there like any other.
	z := Room[[]int](1)
	z.Ask(0, func(int) []int { return nil })
	z.Ask(0, func(int) []int { t.Error("P3.1: fetched again"); return nil })
	if !z.Has(0) || z.Len() != 1 || z.Fetched() != 1 {
		t.Error("P3.1: a thing that is nil")
	}
}

func TestShelfByTheModel(t *testing.T) {
	r := rand.New(rand.NewSource(3))
	for range 300 {
		room, kinds := 1+r.Intn(12), 1+r.Intn(20)
		s, m := Room[string](room), newModel(room)
		things := map[int]string{}
		for range 150 {
			if r.Intn(40) == 0 {
				s.Drop()
				m.drop()
				clear(things)
			} else {
				askAs(t, s, m, things, r.Intn(kinds)-kinds/2)
			}
			wantShelf(t, s, m, []int{r.Intn(kinds) - kinds/2, r.Intn(kinds) - kinds/2})
		}
		for k := -kinds; k <= kinds; k++ {
			wantShelf(t, s, m, []int{k})
		}
	}
}

// A fetch may ask the same shelf: the room must do while it runs, too.
func TestFetchThatAsks(t *testing.T) {
	for room := 1; room <= 6; room++ {
		s := Room[int](room)
		calls := 0
		var fetch func(k int) int
		fetch = func(k int) int {
			calls++
			if s.Has(k) || s.Len() > room {
				t.Errorf("P3.2: room %d: while %d is fetched: Has %t, Len %d", room, k, s.Has(k), s.Len())
			}
			if k == 0 {
				return 1
			}
			return 2 * s.Ask(k-1, fetch)
		}
		if x := s.Ask(10, fetch); x != 1024 || s.Len() != room || s.Fetched() != 11 || calls != 11 {
			t.Errorf("P3.1: room %d: %d, Len %d, Fetched %d, %d calls", room, x, s.Len(), s.Fetched(), calls)
		}
		for k := range 11 {
			if s.Has(k) != (k > 10-room) {
				t.Errorf("P3.1: room %d: Has(%d): %t", room, k, s.Has(k))
			}
		}
	}
}

func TestFetchThatAsksTheSame(t *testing.T) {
	s := Room[string](3)
	x := s.Ask(1, func(k int) string {
		return s.Ask(k, func(int) string { return "inner" }) + " outer"
	})
	if x != "inner outer" || s.Ask(1, nil) != x || s.Len() != 1 || s.Fetched() != 2 {
		t.Errorf("P3.2: %q, Len %d, Fetched %d: a number stands on a shelf once", x, s.Len(), s.Fetched())
	}
}

func TestFetchThatDrops(t *testing.T) {
	s := Room[int](2)
	s.Ask(1, func(k int) int { return k })
	s.Ask(2, func(k int) int { s.Drop(); return k })
	if s.Len() != 1 || s.Has(1) || !s.Has(2) || s.Fetched() != 1 {
		t.Errorf("P3.1: Drop within a fetch: Len %d, Fetched %d", s.Len(), s.Fetched())
	}
}

func TestFetchThatPanicsOrIsNil(t *testing.T) {
	for name, fetch := range map[string]func(k int) int{
		"nil":    nil,
		"panics": func(int) int { panic("no") },
		"index":  func(k int) int { return []int{}[k] },
	} {
		s := Room[int](2)
		same := func(k int) int { return k }
		s.Ask(1, same)
		s.Ask(2, same)
		if x := s.Ask(3, fetch); x != 0 || s.Has(3) || !s.Has(1) || !s.Has(2) || s.Len() != 2 || s.Fetched() != 2 {
			t.Errorf("P6: a fetch that is no good (%s): %d, Len %d, Fetched %d", name, x, s.Len(), s.Fetched())
		}
		if x := s.Ask(3, same); x != 3 || s.Has(1) || !s.Has(2) || s.Fetched() != 3 {
			t.Errorf("P6: behind a fetch that is no good (%s): %d, Fetched %d", name, x, s.Fetched())
		}
	}
}

package graph

import "rewind/mach"

// ground: what a record hangs on, as far as a window tells it.
type ground struct {
	by    int
	reads []Read
}

// window: the grounds of the records that begin in it, and of those ahead of it that read in it, as their calls end there.
type window map[int]ground

func (w window) begin(record, by int) { w[record] = ground{by: by} }

func (w window) read(record int, r Read) {
	x := w[record]
	x.reads = append(x.reads, r)
	w[record] = x
}

// windowOf: the number of the window in which a record begins.
func (g *Graph) windowOf(record int) int { return record / g.Pace() }

// ask: the ground that a record has in a window.
func (g *Graph) ask(k, record int) ground { return g.windows.Ask(k, g.window)[record] }

// window makes one.
func (g *Graph) window(k int) window {
	start, _ := g.starts.Get(k)
	f := follower{Machine: g.machineAt(k * g.Pace()), past: start.copy(), fences: g.fences}
	w := make(window)
	for range g.Pace() {
		w.begin(f.begin())
		if !f.next(w.read) {
			break
		}
	}
	return w
}

// machineAt: a machine that is at a record. The player is where it was behind that.
func (g *Graph) machineAt(record int) *mach.Machine {
	at := g.At()
	// The player takes all its shots in one go, as it would make the whole output anew wherever it goes on from one of them to the next.
	g.End()
	g.To(record)
	m := g.Here()
	g.To(at)
	return m
}

// goThrough goes from the beginning to the end, and finds what windows that begin at shots can't tell: what is known where they begin, and in which of them a record reads behind its own.
func (g *Graph) goThrough() {
	f := follower{Machine: g.Here(), fences: g.fences}
	ended, _ := f.Ended()
	for more := !ended; more; {
		k := g.windowOf(g.count)
		if k == g.starts.Len() {
			g.starts.Put(f.past.copy())
		}
		f.begin()
		more = f.next(func(record int, _ Read) { g.readsIn(k, record) })
		g.count++
	}
}

// readsIn: a record reads in a window.
func (g *Graph) readsIn(k, record int) {
	l := g.late[record]
	if k == g.windowOf(record) || len(l) > 0 && l[len(l)-1] == k {
		return
	}
	g.late[record] = append(l, k)
}

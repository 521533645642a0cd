package sift

import (
	"slices"
	"testing"
)

// watch is a row whose calls are held against the chapter: how often they ask, for which things, and what is there behind them.
type watch struct {
	t *testing.T
	r *Row
	d int
	// says is what is answered to a question.
	says func(a, b int) bool
	// strict tells that it is an order.
	strict bool
	there  map[int]bool
	// coming is the thing that is Added, if one is.
	coming []int
	asked  int
	// last is how many were asked by the call before.
	last int
}

func newWatch(t *testing.T, d int, says func(a, b int) bool, strict bool) *watch {
	t.Helper()
	return &watch{t: t, r: fresh(t, d), d: d, says: says, strict: strict, there: map[int]bool{}}
}

// Ahead: questions are of two things of the row, and the row can be looked at meanwhile.
func (w *watch) Ahead(a, b int) bool {
	w.asked++
	for _, x := range []int{a, b} {
		if !w.there[x] && !slices.Contains(w.coming, x) {
			w.t.Fatalf("%d was asked for: it isn't there", x)
		}
		if i, ok := w.r.Place(x); ok {
			if at, here := w.r.At(i); !here || at != x {
				w.t.Fatalf("At(%d) = %d, %v, though Place(%d) is that", i, at, here, x)
			}
		}
	}
	if a == b {
		w.t.Fatalf("%d was held against itself", a)
	}
	return w.says(a, b)
}

// behind asks how many questions there were, and what the call left.
func (w *watch) behind(call string, x int, got, want bool, most int) {
	w.t.Helper()
	if got != want {
		w.t.Fatalf("d %d: %s(%d) = %v", w.d, call, x, got)
	}
	if !got {
		most = 0
	}
	if w.asked > most {
		w.t.Fatalf("d %d: %s(%d) asked %d times, not at most %d, of %d things", w.d, call, x, w.asked, most, w.r.Len())
	}
	w.last, w.asked = w.asked, 0
	if w.r.Len() != len(w.there) {
		w.t.Fatalf("d %d: %d things, not %d", w.d, w.r.Len(), len(w.there))
	}
	if _, ok := w.r.Place(x); ok != w.there[x] {
		w.t.Fatalf("d %d: Place(%d) is %v", w.d, x, ok)
	}
}

func (w *watch) add(x int) {
	w.t.Helper()
	n, want := w.r.Len(), !w.there[x]
	w.coming = []int{x}
	got := w.r.Add(w, x)
	w.coming = nil
	w.there[x] = true
	w.behind("Add", x, got, want, Depth(w.d, n+1))
}

func (w *watch) remove(x int) {
	w.t.Helper()
	n, want := w.r.Len(), w.there[x]
	got := w.r.Remove(w, x)
	delete(w.there, x)
	w.behind("Remove", x, got, want, Depth(w.d, n)*w.d+1)
}

func (w *watch) raise(x int) {
	w.t.Helper()
	got := w.r.Raise(w, x)
	w.behind("Raise", x, got, w.there[x], Depth(w.d, w.r.Len()))
}

// ask asks for all there is.
func (w *watch) ask() {
	w.t.Helper()
	var things []int
	for x := range w.there {
		things = append(things, x)
	}
	wantThings(w.t, w.r, things...)
	if w.strict {
		wantOrder(w.t, w.r, w.d, w)
		w.asked = 0
	}
}

// roller answers numbers below n that hang on a number alone.
func roller(seed uint64) func(n int) int {
	mix := seed*2654435761 + 12345
	return func(n int) int {
		mix = mix*6364136223846793005 + 1442695040888963407
		return int(mix>>33) % n
	}
}

// mixed does some calls that hang on rolls; more of them bring things in than take them out, or fewer, as it swings.
func (w *watch) mixed(roll func(n int) int, length int, raise func(x int)) {
	w.t.Helper()
	for i := range length {
		x := roll(64)
		switch call := roll(10); {
		case call < 2+4*(i/80%2):
			w.remove(x)
		case call < 7:
			raise(x)
			w.raise(x)
		default:
			w.add(x)
		}
		if i%7 == 0 {
			w.ask()
		}
	}
	w.ask()
}

// TestMixedWays goes long ways with an order that changes as the things are Raised.
func TestMixedWays(t *testing.T) {
	for d := 2; d <= 16; d++ {
		for seed := range uint64(20) {
			roll, o := roller(seed), &keyed{}
			for x := range o.keys {
				o.keys[x] = roll(100)
			}
			w := newWatch(t, d, o.Ahead, true)
			w.mixed(roll, 500, func(x int) { o.keys[x] -= roll(30) })
		}
	}
}

// TestNoOrders: of what is no order it is promised yet what is there, and how many are asked.
func TestNoOrders(t *testing.T) {
	for d := 2; d <= 16; d++ {
		for seed := range uint64(8) {
			roll, times := roller(seed), 0
			for _, says := range []func(a, b int) bool{
				func(a, b int) bool { return true },
				func(a, b int) bool { return false },
				func(a, b int) bool { times++; return times%2 == 0 },
				func(a, b int) bool { times++; return times%3 == 0 },
				func(a, b int) bool { return (a+b)%2 == 0 },
				func(a, b int) bool { return (b-a+64)%64 < 32 },
				func(a, b int) bool { return roll(2) == 0 },
			} {
				w := newWatch(t, d, says, false)
				w.mixed(roll, 300, func(x int) {})
			}
		}
	}
}

// TestQuestionsAtEdges: rows that are full down to a depth, or one beyond, with things that go all the way.
func TestQuestionsAtEdges(t *testing.T) {
	for d := 2; d <= 16; d++ {
		for _, all := range []bool{false, true} {
			w := newWatch(t, d, func(a, b int) bool { return all }, false)
			for n := range 2 + d + d*d + d*d*d {
				w.add(n)
				if all && w.last != Depth(d, n+1) {
					t.Errorf("d %d: one that goes all the way up asked %d times, not %d", d, w.last, Depth(d, n+1))
				}
				last, _ := w.r.At(n)
				w.raise(last)
				first, _ := w.r.At(0)
				w.raise(first)
				if n%3 == 2 {
					w.remove(first)
					w.add(first)
				}
			}
			w.ask()
		}
	}
}

// TestManyThings: things that rise, fall, or are mixed, and as many as there can be slots.
func TestManyThings(t *testing.T) {
	for _, d := range []int{2, 3, 16} {
		for _, factor := range []int{1, -1, 40503} {
			w := newWatch(t, d, func(a, b int) bool { return a < b }, true)
			var things []int
			for i := range 1 << 16 {
				x := i * factor % (1 << 16)
				things = append(things, x)
				w.add(x)
			}
			w.ask()
			slices.Sort(things)
			for _, want := range things {
				x, ok := w.r.At(0)
				if !ok || x != want {
					t.Fatalf("d %d: At(0) = %d, %v, not %d", d, x, ok, want)
				}
				w.remove(x)
			}
			wantThings(t, w.r)
		}
	}
}

// TestAddsAreCheap: things that come in behind all others ask once, however many there are; so do those that are Raised to no purpose.
func TestAddsAreCheap(t *testing.T) {
	w := newWatch(t, 2, func(a, b int) bool { return a < b }, true)
	for i := range 1000 {
		w.add(i)
		if w.last != min(i, 1) {
			t.Fatalf("Add(%d) asked %d times", i, w.last)
		}
		w.raise(i)
		if w.last != min(i, 1) {
			t.Fatalf("Raise(%d) asked %d times", i, w.last)
		}
	}
}

// TestNoOrder: where no Order is handed in, nothing is ahead.
func TestNoOrder(t *testing.T) {
	for d := 2; d <= 16; d++ {
		r := fresh(t, d)
		for i := range 50 {
			if !r.Add(nil, i) || r.Add(nil, i) || !r.Raise(nil, i/2) || r.Raise(nil, -1) {
				t.Fatalf("d %d: Add or Raise at %d", d, i)
			}
		}
		for i := range 25 {
			if !r.Remove(nil, i*2) || r.Remove(nil, i*2) {
				t.Fatalf("d %d: Remove(%d)", d, i*2)
			}
		}
		var odd []int
		for i := range 25 {
			odd = append(odd, i*2+1)
		}
		wantThings(t, r, odd...)
	}
}

// meddler is an Order that changes the row when it is asked.
type meddler struct {
	r    *Row
	roll func(n int) int
}

func (m *meddler) Ahead(a, b int) bool {
	switch m.roll(3) {
	case 0:
		for _, x := range m.r.All() {
			m.r.Remove(nil, x)
		}
	case 1:
		m.r.Remove(nil, a)
	default:
		m.r.Add(nil, m.roll(1000))
	}
	return m.roll(4) != 0
}

// TestMeddlers: an Order that changes the row breaks no call, and each thing is at one place yet.
func TestMeddlers(t *testing.T) {
	for d := 2; d <= 16; d++ {
		for seed := range uint64(30) {
			roll := roller(seed)
			r := fresh(t, d)
			m := &meddler{r: r, roll: roll}
			for range 60 {
				for range 8 {
					r.Add(nil, roll(1000))
				}
				r.Add(m, roll(1000))
				if x, ok := r.At(roll(8)); ok {
					r.Raise(m, x)
				}
				if x, ok := r.At(roll(8)); ok {
					r.Remove(m, x)
				}
				wantThings(t, r, r.All()...)
			}
		}
	}
}

func FuzzWays(f *testing.F) {
	f.Add(uint8(0), []byte{0, 9, 0, 5, 0, 7, 1, 5, 2, 9})
	f.Add(uint8(14), []byte{0, 1, 0, 2, 0, 3, 0, 4, 7, 3, 1, 1, 1, 2, 1, 3})
	f.Add(uint8(1), []byte{0, 60, 0, 50, 0, 40, 0, 30, 0, 20, 0, 10, 0, 5, 1, 60, 1, 50})
	f.Fuzz(func(t *testing.T, d uint8, way []byte) {
		o := &keyed{}
		w := newWatch(t, 2+int(d%15), o.Ahead, true)
		for i := 0; i+1 < len(way); i += 2 {
			x := int(way[i+1] % 64)
			switch way[i] % 3 {
			case 0:
				w.add(x)
			case 1:
				w.remove(x)
			default:
				o.keys[x] -= int(way[i] / 3)
				w.raise(x)
			}
			w.ask()
		}
	})
}

package binomial

import (
	"slices"
	"testing"

	"haycock/api"
	"haycock/entry"
	"haycock/gauge"
)

// watched is a nest of which each call is held against how many steps it may take.
type watched struct {
	*Nest
	t *testing.T
}

// fresh is a new nest with so many heaps.
func fresh(t *testing.T, capacity, heaps int) watched {
	t.Helper()
	n, e := New(capacity)
	if e != api.OK || n == nil || n.Capacity() != capacity || n.Steps() != 0 {
		t.Fatalf("New(%d) = %v, %d", capacity, n, e)
	}
	for i := range heaps {
		if h := n.Make(); h != i+1 {
			t.Fatalf("Make() = %d, not %d", h, i+1)
		}
	}
	return watched{n, t}
}

// limit is how many steps a call may take upon so many slots.
func limit(in int) int {
	return gauge.Limit(api.Config{Kind: api.KindBinomial}, in+1)
}

// took is how many steps something took.
func (w watched) took(do func()) int {
	steps := w.Steps()
	do()
	return w.Steps() - steps
}

// bounded does something, and asks for no more steps than that.
func (w watched) bounded(most int, do func()) {
	w.t.Helper()
	if took := w.took(do); took < 0 || took > most {
		w.t.Fatalf("it took %d steps, not at most %d", took, most)
	}
}

// within does something, asks for that answer, and for no more steps than that.
func (w watched) within(most int, want bool, do func() bool) {
	w.t.Helper()
	w.bounded(most, func() {
		w.t.Helper()
		if do() != want {
			w.t.Fatalf("it didn't answer %v", want)
		}
	})
}

// inHome is how many slots are in a slot's heap.
func (w watched) inHome(slot int) int {
	h, _ := w.Home(slot)
	return w.Len(h)
}

// insert, decrease, remove, meld and extract ask for true, and for no more steps than the call may take.

func (w watched) insert(h, slot int, k int64) {
	w.t.Helper()
	w.within(limit(w.Len(h)), true, func() bool { return w.Insert(h, slot, api.Entry{Key: k}) })
}

func (w watched) decrease(slot int, k int64) {
	w.t.Helper()
	w.within(limit(w.inHome(slot)), true, func() bool { return w.Decrease(slot, api.Entry{Key: k}) })
}

func (w watched) remove(slot int) {
	w.t.Helper()
	w.within(limit(w.inHome(slot)), true, func() bool { return w.Delete(slot) })
}

func (w watched) meld(a, b int) {
	w.t.Helper()
	w.within(limit(w.Len(a)+w.Len(b)), true, func() bool { return w.Meld(a, b) })
}

func (w watched) extract(h, want int) {
	w.t.Helper()
	w.within(limit(w.Len(h)), true, func() bool {
		w.t.Helper()
		slot, ok := w.Extract(h)
		if slot != want {
			w.t.Fatalf("Extract(%d) = %d, %v, not %d", h, slot, ok, want)
		}
		return ok
	})
}

// fill puts keys into a heap, from a slot on.
func (w watched) fill(h, slot int, keys ...int64) {
	w.t.Helper()
	for i, k := range keys {
		w.insert(h, slot+i, k)
	}
}

// wantFirst asks for a heap's first slot.
func (w watched) wantFirst(h, want int) {
	w.t.Helper()
	w.within(limit(w.Len(h)), true, func() bool {
		w.t.Helper()
		slot, ok := w.Min(h)
		if slot != want {
			w.t.Fatalf("Min(%d) = %d, %v, not %d", h, slot, ok, want)
		}
		return ok
	})
}

// wantOut extracts those slots, and no other one.
func (w watched) wantOut(h int, want ...int) {
	w.t.Helper()
	for _, slot := range want {
		w.wantFirst(h, slot)
		w.extract(h, slot)
		if _, in := w.Home(slot); in {
			w.t.Fatalf("%d is in a heap, though it came out", slot)
		}
	}
	if got, ok := w.Extract(h); ok || got != 0 {
		w.t.Fatalf("Extract(%d) = %d, %v, though nothing is left", h, got, ok)
	}
	if got, ok := w.Min(h); ok || got != 0 || len(w.Degrees(h)) != 0 {
		w.t.Fatalf("Min(%d) = %d, %v, though nothing is left", h, got, ok)
	}
}

// aheadOf is which of two slots is ahead, without a step.
func (w watched) aheadOf(a, b int) bool {
	x, _ := w.Entry(a)
	y, _ := w.Entry(b)
	if x == y {
		return a < b
	}
	return entry.Less(x, y)
}

// wantShape holds the rows and cubes of a nest of which so many heaps were made. It takes no steps.
func (w watched) wantShape(heaps int) {
	w.t.Helper()
	w.bounded(0, func() {
		w.t.Helper()
		for h := range heaps + 2 {
			w.wantRow(h)
		}
		for slot := range w.Capacity() {
			if _, in := w.Home(slot); !in {
				w.wantLoose(slot)
			}
		}
	})
}

// wantRow holds a heap's roots: that all slots of the heap are below them, and as many degrees are told.
func (w watched) wantRow(h int) {
	w.t.Helper()
	row, cubes, in := w.rows[h], w.forest.cubes, 0
	if !cubes.Row(row...) {
		w.t.Fatalf("%v, of heap %d, is no row of roots", row, h)
	}
	var degrees []int
	for _, root := range row {
		in += w.wantCube(h, root)
		degrees = append(degrees, cubes.Degree(root))
	}
	if in != w.Len(h) || !slices.Equal(degrees, places(in)) || !slices.Equal(w.Degrees(h), degrees) {
		w.t.Fatalf("heap %d: %d slots of %d, %v, told as %v", h, in, w.Len(h), degrees, w.Degrees(h))
	}
}

// wantCube holds what is at a slot and below it: that all is in that heap, in order, and of the degrees that it should be.
// It tells how many slots there are.
func (w watched) wantCube(h, slot int) int {
	w.t.Helper()
	if home, ok := w.Home(slot); !ok || home != h {
		w.t.Fatalf("%d, in a cube of heap %d, is in %d, %v", slot, h, home, ok)
	}
	in := 1
	for degree, kid := range w.forest.cubes.Kids(slot) {
		if w.aheadOf(kid, slot) || w.forest.cubes.Degree(kid) != degree {
			w.t.Fatalf("%d, of the degree %d, is child %d of %d", kid, w.forest.cubes.Degree(kid), degree, slot)
		}
		in += w.wantCube(h, kid)
	}
	return in
}

// wantLoose asks of a slot that is in no heap that nothing is above it nor below it.
func (w watched) wantLoose(slot int) {
	w.t.Helper()
	up, below := w.forest.cubes.Up(slot)
	if below || w.forest.cubes.Degree(slot) != 0 {
		w.t.Fatalf("%d is in no heap, but below %d, %v, above %v", slot, up, below, w.forest.cubes.Kids(slot))
	}
}

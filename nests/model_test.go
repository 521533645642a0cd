package nests

import (
	"slices"
	"testing"

	"haycock/api"
	"haycock/entry"
)

// plain is a nest by what the chapter says alone: which heaps there are, and of each slot its heap (0: none) and its entry.
type plain struct {
	heaps   []bool
	sizes   []int
	home    []int
	entries []api.Entry
}

func (p *plain) hasHeap(h int) bool {
	return h >= 1 && h <= len(p.heaps) && p.heaps[h-1]
}

func (p *plain) hasSlot(slot int) bool {
	return slot >= 0 && slot < len(p.home)
}

func (p *plain) in(slot int) bool {
	return p.hasSlot(slot) && p.home[slot] != 0
}

func (p *plain) size(h int) int {
	if !p.hasHeap(h) {
		return 0
	}
	return p.sizes[h-1]
}

// sizeAt is how many are in a slot's heap.
func (p *plain) sizeAt(slot int) int {
	if !p.in(slot) {
		return 0
	}
	return p.size(p.home[slot])
}

// compare is which of two slots is ahead.
func (p *plain) compare(a, b int) int {
	if order := entry.Compare(p.entries[a], p.entries[b]); order != 0 {
		return order
	}
	return a - b
}

// order is a heap's slots as they should come out.
func (p *plain) order(h int) []int {
	var all []int
	for slot, home := range p.home {
		if h != 0 && home == h {
			all = append(all, slot)
		}
	}
	slices.SortFunc(all, p.compare)
	return all
}

// first is the slot of a heap that is ahead of all others.
func (p *plain) first(h int) (int, bool) {
	best, ok := 0, false
	for slot, home := range p.home {
		if h != 0 && home == h && (!ok || p.compare(slot, best) < 0) {
			best, ok = slot, true
		}
	}
	return best, ok
}

// pair is a nest, and a plain one that is asked the same.
type pair struct {
	t *testing.T
	k kind
	n calls
	p *plain
	// calls is how many there were; what takes no steps in any kind of nests may count as fewer ones.
	calls int
}

// newPair is a nest of which it is known that it can be, with so many heaps.
func newPair(t *testing.T, k kind, capacity, heaps int) *pair {
	t.Helper()
	n, e := k.open(capacity)
	if e != api.OK || n == nil {
		t.Fatalf("New(%d) = %v, %d", capacity, n, e)
	}
	x := &pair{t: t, k: k, n: n, p: &plain{home: make([]int, capacity), entries: make([]api.Entry, capacity)}}
	for range heaps {
		x.make()
	}
	return x
}

// within does a call, and asks for no more steps than that, and than all calls up to it may take together.
func (x *pair) within(what string, most int, do func()) {
	x.t.Helper()
	steps := x.n.Steps()
	do()
	x.calls++
	if took := x.n.Steps() - steps; took < 0 || took > most {
		x.t.Fatalf("%s took %d steps, not at most %d", what, took, most)
	}
	x.k.wantWhole(x.t, x.n, x.calls)
}

// wantWhole asks for no more steps than so many calls may take together.
func (k kind) wantWhole(t *testing.T, n calls, calls int) {
	t.Helper()
	if steps, most := n.Steps(), k.whole(calls); steps > most {
		t.Fatalf("%d calls took %d steps, not at most %d", calls, steps, most)
	}
}

// without does something that takes no steps in any kind of nests.
func (x *pair) without(what string, do func()) {
	x.t.Helper()
	x.within(what, 0, do)
}

func (x *pair) make() {
	x.t.Helper()
	want := 0
	if len(x.p.heaps) < 65536 {
		x.p.heaps, x.p.sizes = append(x.p.heaps, true), append(x.p.sizes, 0)
		want = len(x.p.heaps)
	}
	x.without("Make", func() {
		x.t.Helper()
		if h := x.n.Make(); h != want {
			x.t.Fatalf("Make() = %d, not %d", h, want)
		}
	})
}

func (x *pair) insert(h, slot int, e api.Entry) {
	x.t.Helper()
	most := x.k.call(x.p.size(h))
	want := x.p.hasHeap(h) && x.p.hasSlot(slot) && !x.p.in(slot)
	if want {
		x.p.home[slot], x.p.entries[slot] = h, e
		x.p.sizes[h-1]++
	}
	x.within("Insert", most, func() {
		x.t.Helper()
		if got := x.n.Insert(h, slot, e); got != want {
			x.t.Fatalf("Insert(%d, %d, %v) = %v", h, slot, e, got)
		}
	})
}

func (x *pair) min(h int) {
	x.t.Helper()
	want, has := x.p.first(h)
	x.within("Min", x.k.call(x.p.size(h)), func() {
		x.t.Helper()
		if got, ok := x.n.Min(h); ok != has || got != want {
			x.t.Fatalf("Min(%d) = %d, %v, not %d, %v", h, got, ok, want, has)
		}
	})
}

func (x *pair) extract(h int) {
	x.t.Helper()
	x.extractAs(h, x.p.first)
}

// extractAs extracts what somebody else says is first.
func (x *pair) extractAs(h int, first func(h int) (int, bool)) {
	x.t.Helper()
	most := x.k.call(x.p.size(h))
	want, has := first(h)
	if has {
		x.p.drop(want)
	}
	x.within("Extract", most, func() {
		x.t.Helper()
		if got, ok := x.n.Extract(h); ok != has || got != want {
			x.t.Fatalf("Extract(%d) = %d, %v, not %d, %v", h, got, ok, want, has)
		}
	})
}

func (p *plain) drop(slot int) {
	p.sizes[p.home[slot]-1]--
	p.home[slot], p.entries[slot] = 0, api.Entry{}
}

func (x *pair) decrease(slot int, e api.Entry) {
	x.t.Helper()
	want := x.p.in(slot) && entry.Compare(e, x.p.entries[slot]) <= 0
	if want {
		x.p.entries[slot] = e
	}
	x.within("Decrease", x.k.call(x.p.sizeAt(slot)), func() {
		x.t.Helper()
		if got := x.n.Decrease(slot, e); got != want {
			x.t.Fatalf("Decrease(%d, %v) = %v", slot, e, got)
		}
	})
}

func (x *pair) delete(slot int) {
	x.t.Helper()
	most, want := x.k.call(x.p.sizeAt(slot)), x.p.in(slot)
	if want {
		x.p.drop(slot)
	}
	x.within("Delete", most, func() {
		x.t.Helper()
		if got := x.n.Delete(slot); got != want {
			x.t.Fatalf("Delete(%d) = %v", slot, got)
		}
	})
}

func (x *pair) meld(a, b int) {
	x.t.Helper()
	most := x.k.meld(x.p.size(a), x.p.size(b))
	want := a != b && x.p.hasHeap(a) && x.p.hasHeap(b)
	if want {
		x.p.join(a, b)
	}
	x.within("Meld", most, func() {
		x.t.Helper()
		if got := x.n.Meld(a, b); got != want {
			x.t.Fatalf("Meld(%d, %d) = %v", a, b, got)
		}
	})
}

func (p *plain) join(a, b int) {
	if p.sizes[b-1] > 0 {
		for slot, home := range p.home {
			if home == b {
				p.home[slot] = a
			}
		}
	}
	p.sizes[a-1] += p.sizes[b-1]
	p.heaps[b-1], p.sizes[b-1] = false, 0
}

// askHeap holds what can be asked of a heap without a change, but Min.
func (x *pair) askHeap(h int) {
	x.t.Helper()
	x.without("Has, or Len,", func() {
		x.t.Helper()
		if x.n.Has(h) != x.p.hasHeap(h) || x.n.Len(h) != x.p.size(h) {
			x.t.Fatalf("heap %d: Has, Len: %v, %d, not %v, %d", h, x.n.Has(h), x.n.Len(h), x.p.hasHeap(h), x.p.size(h))
		}
	})
}

// askSlot holds what can be asked of a slot without a change.
func (x *pair) askSlot(slot int) {
	x.t.Helper()
	wantHome, wantEntry := 0, api.Entry{}
	if x.p.in(slot) {
		wantHome, wantEntry = x.p.home[slot], x.p.entries[slot]
	}
	x.without("Home, or Entry,", func() {
		x.t.Helper()
		home, in := x.n.Home(slot)
		e, ok := x.n.Entry(slot)
		if in != x.p.in(slot) || ok != in || home != wantHome || e != wantEntry {
			x.t.Fatalf("slot %d: %d, %v, %v, %v, not %d, %v, %v", slot, home, in, e, ok, wantHome, wantEntry, x.p.in(slot))
		}
	})
}

// ask holds all that can be asked without a change.
func (x *pair) ask() {
	x.t.Helper()
	x.without("Capacity", func() {
		x.t.Helper()
		if got := x.n.Capacity(); got != len(x.p.home) {
			x.t.Fatalf("Capacity() = %d", got)
		}
	})
	for h := -1; h <= len(x.p.heaps)+1; h++ {
		x.askHeap(h)
		x.min(h)
	}
	for slot := -1; slot <= len(x.p.home); slot++ {
		x.askSlot(slot)
	}
}

// drain takes all out of a heap, one behind the other, and once more.
func (x *pair) drain(h int) {
	x.t.Helper()
	for _, slot := range x.p.order(h) {
		x.extractAs(h, func(int) (int, bool) { return slot, true })
	}
	x.extract(h)
	x.askHeap(h)
}

// drainAll takes all out of all heaps.
func (x *pair) drainAll() {
	x.t.Helper()
	for h := -1; h <= len(x.p.heaps)+1; h++ {
		x.drain(h)
	}
}

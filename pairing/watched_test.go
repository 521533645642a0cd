package pairing

import (
	"slices"
	"testing"

	"haycock/api"
	"haycock/entry"
	"haycock/gauge"
)

// most is the greatest capacity.
const most = 65536

// config is that of these heaps.
var config = api.Config{Kind: api.KindPairing}

// farNumbers are of no slot and of no heap; some of them would be of one in fewer bits.
var farNumbers = []int{
	-1 << 63, -1<<63 + 1, -1 << 32, -65536, -65535, -2, -1, 65537, 65538, 1<<31 - 1, 1 << 32, 1<<32 + 1, 1<<63 - 1,
}

// watched is a nest of which all calls together are held against how many steps they may take.
type watched struct {
	*Nest
	t     *testing.T
	calls int
}

// fresh is a new nest with so many heaps.
func fresh(t *testing.T, capacity, heaps int) *watched {
	t.Helper()
	n, e := New(capacity)
	if e != api.OK || n == nil || n.Capacity() != capacity || n.Steps() != 0 {
		t.Fatalf("New(%d) = %v, %d", capacity, n, e)
	}
	w := &watched{Nest: n, t: t}
	for i := range heaps {
		w.want(true, func() bool { return n.Make() == i+1 })
	}
	return w
}

// want does a call, and asks for that answer, and for no more steps than all calls up to it may take together.
func (w *watched) want(want bool, do func() bool) {
	w.t.Helper()
	if do() != want {
		w.t.Fatalf("call %d didn't answer %v", w.calls, want)
	}
	w.calls++
	if steps, bound := w.Steps(), gauge.Whole(config, w.calls); steps > bound {
		w.t.Fatalf("%d calls took %d steps, not at most %d", w.calls, steps, bound)
	}
}

// exactly does something, and asks for just so many steps.
func (w *watched) exactly(steps int, what string, do func()) {
	w.t.Helper()
	was := w.Steps()
	do()
	if got := w.Steps() - was; got != steps {
		w.t.Fatalf("%s took %d steps, not %d", what, got, steps)
	}
}

// insert, decrease, remove, meld and extract ask for true.

func (w *watched) insert(h, slot int, k int64) {
	w.t.Helper()
	w.want(true, func() bool { return w.Insert(h, slot, api.Entry{Key: k}) })
}

func (w *watched) decrease(slot int, k int64) {
	w.t.Helper()
	w.want(true, func() bool { return w.Decrease(slot, api.Entry{Key: k}) })
}

func (w *watched) remove(slot int) {
	w.t.Helper()
	w.want(true, func() bool { return w.Delete(slot) })
}

func (w *watched) meld(a, b int) {
	w.t.Helper()
	w.want(true, func() bool { return w.Meld(a, b) })
}

func (w *watched) extract(h, want int) {
	w.t.Helper()
	w.want(true, func() bool {
		w.t.Helper()
		slot, ok := w.Extract(h)
		if slot != want {
			w.t.Fatalf("Extract(%d) = %d, %v, not %d", h, slot, ok, want)
		}
		return ok
	})
}

// fill puts keys into a heap, from a slot on.
func (w *watched) fill(h, slot int, keys ...int64) {
	w.t.Helper()
	for i, k := range keys {
		w.insert(h, slot+i, k)
	}
}

// wantTop asks for a heap's topmost slot.
func (w *watched) wantTop(h, want int) {
	w.t.Helper()
	w.want(true, func() bool {
		w.t.Helper()
		slot, ok := w.Min(h)
		if slot != want {
			w.t.Fatalf("Min(%d) = %d, %v, not %d", h, slot, ok, want)
		}
		return ok
	})
}

// wantKids asks for a slot's children, in their row, without a step.
func (w *watched) wantKids(slot int, want ...int) {
	w.t.Helper()
	w.exactly(0, "Kids", func() {
		w.t.Helper()
		if got := w.Kids(slot); !slices.Equal(got, want) {
			w.t.Fatalf("Kids(%d) = %v, not %v", slot, got, want)
		}
	})
}

// wantOut extracts those slots, and no other one.
func (w *watched) wantOut(h int, want ...int) {
	w.t.Helper()
	for _, slot := range want {
		w.wantTop(h, slot)
		w.extract(h, slot)
		w.wantKids(slot)
	}
	if got, ok := w.Extract(h); ok || got != 0 {
		w.t.Fatalf("Extract(%d) = %d, %v, though nothing is left", h, got, ok)
	}
	if got, ok := w.Min(h); ok || got != 0 {
		w.t.Fatalf("Min(%d) = %d, %v, though nothing is left", h, got, ok)
	}
}

// wantTrees holds the trees of a nest of which so many heaps were made: that all slots of a heap are in its tree, and none
// is ahead of that above it. It takes no steps. Trees may be as deep as there are slots: it goes them in a loop.
func (w *watched) wantTrees(heaps int) {
	w.t.Helper()
	steps := w.Steps()
	for h := range heaps + 2 {
		in := 0
		var way []int
		if top, ok := w.Min(h); ok {
			way = append(way, top)
		}
		for ; len(way) > 0; in++ {
			slot := way[len(way)-1]
			if home, _ := w.Home(slot); home != h || in == w.Len(h) {
				w.t.Fatalf("%d, slot %d in the tree of heap %d with %d slots, is in heap %d", slot, in+1, h, w.Len(h), home)
			}
			way = append(way[:len(way)-1], w.kidsBehind(slot)...)
		}
		if in != w.Len(h) {
			w.t.Fatalf("the tree of heap %d has %d slots, not %d", h, in, w.Len(h))
		}
	}
	for slot := range w.Capacity() {
		if _, in := w.Home(slot); !in {
			w.wantKids(slot)
		}
	}
	if took := w.Steps() - steps; took != 0 {
		w.t.Fatalf("to look took %d steps", took)
	}
}

// kidsBehind is a slot's children, none of which is ahead of it.
func (w *watched) kidsBehind(slot int) []int {
	w.t.Helper()
	kids := w.Kids(slot)
	above, _ := w.Entry(slot)
	for _, kid := range kids {
		below, _ := w.Entry(kid)
		if entry.Less(below, above) || below == above && kid < slot {
			w.t.Fatalf("%d is below %d, and ahead of it", kid, slot)
		}
	}
	return kids
}

// keysOf is so many keys, each told by its place.
func keysOf(count int, key func(i int) int) []int64 {
	keys := make([]int64, count)
	for i := range keys {
		keys[i] = int64(key(i))
	}
	return keys
}

// rising is keys of which the first one is above all others, in one long row.
func rising(count int) []int64 {
	return keysOf(count, func(i int) int { return i })
}

// falling is keys each of which is above all that came ahead: a tree as deep as can be.
func falling(count int) []int64 {
	return keysOf(count, func(i int) int { return -i })
}

// mixed is keys below 100, some of them alike.
func mixed(count int) []int64 {
	return keysOf(count, func(i int) int { return i * 7919 % 1009 % 100 })
}

// forOrders runs a test on keys that come in several orders.
func forOrders(count int, test func(keys []int64)) {
	swung := keysOf(count, func(i int) int { return i * (1 - 2*(i%2)) })
	for _, keys := range [][]int64{rising(count), falling(count), mixed(count), swung, make([]int64, count)} {
		test(keys)
	}
}

// byKeys is the slots as they should come out, of which slot i has the key keys[i].
func byKeys(keys []int64) []int {
	all := make([]int, len(keys))
	for i := range all {
		all[i] = i
	}
	slices.SortStableFunc(all, func(a, b int) int {
		return entry.Compare(api.Entry{Key: keys[a]}, api.Entry{Key: keys[b]})
	})
	return all
}

// roller tells numbers below n that hang on the seed alone.
func roller(seed uint64) func(n int) int {
	mix := seed*2654435761 + 12345
	return func(n int) int {
		mix = mix*6364136223846793005 + 1442695040888963407
		return int(mix>>33) % n
	}
}

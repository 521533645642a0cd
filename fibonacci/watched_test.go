package fibonacci

import (
	"slices"
	"testing"

	"haycock/api"
	"haycock/entry"
	"haycock/gauge"
)

// most is the greatest capacity.
const most = 65536

// config is that of these heaps.
var config = api.Config{Kind: api.KindFibonacci}

// farNumbers are of no slot and of no heap; some of them would be of one in fewer bits.
var farNumbers = []int{
	-1 << 63, -1<<63 + 1, -1 << 32, -65536, -65535, -2, -1, 65537, 65538, 1<<31 - 1, 1 << 32, 1<<32 + 1, 1<<63 - 1,
}

// watched is a nest of which all calls together are held against how many steps they may take.
type watched struct {
	*Nest
	t     *testing.T
	calls int
}

// fresh is a new nest with so many heaps.
func fresh(t *testing.T, capacity, heaps int) *watched {
	t.Helper()
	n, e := New(capacity)
	if e != api.OK || n == nil || n.Capacity() != capacity || n.Steps() != 0 {
		t.Fatalf("New(%d) = %v, %d", capacity, n, e)
	}
	w := &watched{Nest: n, t: t}
	for i := range heaps {
		w.want(true, func() bool { return n.Make() == i+1 })
	}
	return w
}

// want does a call, and asks for that answer, and for no more steps than all calls up to it may take together.
func (w *watched) want(want bool, do func() bool) {
	w.t.Helper()
	if do() != want {
		w.t.Fatalf("call %d didn't answer %v", w.calls, want)
	}
	w.calls++
	if steps, bound := w.Steps(), gauge.Whole(config, w.calls); steps > bound {
		w.t.Fatalf("%d calls took %d steps, not at most %d", w.calls, steps, bound)
	}
}

// exactly does something, and asks for just so many steps.
func (w *watched) exactly(steps int, what string, do func()) {
	w.t.Helper()
	was := w.Steps()
	do()
	if got := w.Steps() - was; got != steps {
		w.t.Fatalf("%s took %d steps, not %d", what, got, steps)
	}
}

// insert, decrease, remove, meld and extract ask for true.

func (w *watched) insert(h, slot int, k int64) {
	w.t.Helper()
	w.want(true, func() bool { return w.Insert(h, slot, api.Entry{Key: k}) })
}

func (w *watched) decrease(slot int, k int64) {
	w.t.Helper()
	w.want(true, func() bool { return w.Decrease(slot, api.Entry{Key: k}) })
}

func (w *watched) remove(slot int) {
	w.t.Helper()
	w.want(true, func() bool { return w.Delete(slot) })
}

func (w *watched) meld(a, b int) {
	w.t.Helper()
	w.want(true, func() bool { return w.Meld(a, b) })
}

func (w *watched) extract(h, want int) {
	w.t.Helper()
	w.want(true, func() bool {
		w.t.Helper()
		slot, ok := w.Extract(h)
		if slot != want {
			w.t.Fatalf("Extract(%d) = %d, %v, not %d", h, slot, ok, want)
		}
		return ok
	})
}

// fill puts keys into a heap, from a slot on.
func (w *watched) fill(h, slot int, keys ...int64) {
	w.t.Helper()
	for i, k := range keys {
		w.insert(h, slot+i, k)
	}
}

// wantFirst asks for a heap's first slot.
func (w *watched) wantFirst(h, want int) {
	w.t.Helper()
	w.want(true, func() bool {
		w.t.Helper()
		slot, ok := w.Min(h)
		if slot != want {
			w.t.Fatalf("Min(%d) = %d, %v, not %d", h, slot, ok, want)
		}
		return ok
	})
}

// wantRoots asks how many trees a heap has, without a step.
func (w *watched) wantRoots(h, want int) {
	w.t.Helper()
	w.exactly(0, "Roots", func() {
		w.t.Helper()
		if got := w.Roots(h); got != want {
			w.t.Fatalf("Roots(%d) = %d, not %d", h, got, want)
		}
	})
}

// wantDegree asks how many children a slot has, without a step.
func (w *watched) wantDegree(slot, want int) {
	w.t.Helper()
	w.exactly(0, "Degree", func() {
		w.t.Helper()
		if got := w.Degree(slot); got != want {
			w.t.Fatalf("Degree(%d) = %d, not %d", slot, got, want)
		}
	})
}

// wantDegrees asks for the degrees of all slots from 0 on.
func (w *watched) wantDegrees(want ...int) {
	w.t.Helper()
	for slot, degree := range want {
		w.wantDegree(slot, degree)
	}
}

// wantOut extracts those slots, and no other one; behind each of them no two trees have the same degree.
func (w *watched) wantOut(h int, want ...int) {
	w.t.Helper()
	for _, slot := range want {
		w.wantFirst(h, slot)
		w.extract(h, slot)
		w.wantDegree(slot, 0)
		w.wantUnlike(h)
	}
	w.wantRoots(h, 0)
	if got, ok := w.Extract(h); ok || got != 0 {
		w.t.Fatalf("Extract(%d) = %d, %v, though nothing is left", h, got, ok)
	}
	if got, ok := w.Min(h); ok || got != 0 {
		w.t.Fatalf("Min(%d) = %d, %v, though nothing is left", h, got, ok)
	}
}

// tops is what is topmost in a heap's trees.
func (w *watched) tops(h int) []int {
	t, ok := w.trees[h]
	if !ok {
		return nil
	}
	return w.forest.rings.All(t.first)
}

// wantUnlike asks that no two trees of a heap have topmost slots of the same degree.
func (w *watched) wantUnlike(h int) {
	w.t.Helper()
	seen := map[int]int{}
	for _, top := range w.tops(h) {
		if other, ok := seen[w.Degree(top)]; ok {
			w.t.Fatalf("%d and %d, topmost in heap %d, have the degree %d", other, top, h, w.Degree(top))
		}
		seen[w.Degree(top)] = top
	}
	w.wantRoots(h, len(seen))
}

// wantTrees holds the trees of a nest of which so many heaps were made: that all slots of a heap are in its trees, none is
// ahead of that above it, and no degree is greater than it may be. It takes no steps. Trees may be as deep as there are
// slots: it goes them in a loop.
func (w *watched) wantTrees(heaps int) {
	w.t.Helper()
	w.exactly(0, "to look", func() {
		w.t.Helper()
		for h := range heaps + 2 {
			w.wantHeap(h)
		}
		for slot := range w.Capacity() {
			if _, in := w.Home(slot); !in {
				w.wantLoose(slot)
			}
		}
	})
}

// wantHeap holds the trees of one heap.
func (w *watched) wantHeap(h int) {
	w.t.Helper()
	way := slices.Clone(w.tops(h))
	w.wantRoots(h, len(way))
	for _, top := range way {
		if w.forest.nodes[top].up != none {
			w.t.Fatalf("%d, topmost in heap %d, is below %d", top, h, w.forest.nodes[top].up)
		}
	}
	in := 0
	for ; len(way) > 0; in++ {
		slot := way[len(way)-1]
		if home, _ := w.Home(slot); home != h || in == w.Len(h) {
			w.t.Fatalf("%d, slot %d in the trees of heap %d with %d slots, is in heap %d", slot, in+1, h, w.Len(h), home)
		}
		way = append(way[:len(way)-1], w.kidsBehind(h, slot)...)
	}
	if in != w.Len(h) {
		w.t.Fatalf("the trees of heap %d have %d slots, not %d", h, in, w.Len(h))
	}
}

// kidsBehind is a slot's children, none of which is ahead of it, and no more of them than there may be.
func (w *watched) kidsBehind(h, slot int) []int {
	w.t.Helper()
	kids := w.forest.rings.All(w.forest.nodes[slot].kid)
	if w.Degree(slot) != len(kids) || len(kids) > 2*gauge.Bits(w.Len(h)) {
		w.t.Fatalf("%d has %d children in a heap of %d slots, told as %d", slot, len(kids), w.Len(h), w.Degree(slot))
	}
	above, _ := w.Entry(slot)
	for _, kid := range kids {
		below, _ := w.Entry(kid)
		if entry.Less(below, above) || below == above && kid < slot {
			w.t.Fatalf("%d is below %d, and ahead of it", kid, slot)
		}
		if up := w.forest.nodes[kid].up; up != slot {
			w.t.Fatalf("%d is below %d, not below %d", kid, up, slot)
		}
	}
	return kids
}

// wantLoose asks of a slot that is in no heap that it is tied to no other one.
func (w *watched) wantLoose(slot int) {
	w.t.Helper()
	x := w.forest.nodes[slot]
	if x.up != none || x.kid != none || x.degree != 0 || w.Degree(slot) != 0 || len(w.forest.rings.All(slot)) != 1 {
		w.t.Fatalf("%d is in no heap, but tied: %v, %v", slot, x, w.forest.rings.All(slot))
	}
}

// ups is what each slot is below: it tells what was moved.
func (w *watched) ups() []int {
	ups := make([]int, w.Capacity())
	for slot := range ups {
		ups[slot] = w.forest.nodes[slot].up
	}
	return ups
}

// unmoved does something, and asks that no slot came below another one, and none off.
func (w *watched) unmoved(what string, do func()) {
	w.t.Helper()
	was := w.ups()
	do()
	if now := w.ups(); !slices.Equal(now, was) {
		w.t.Fatalf("%s moved something: %v is %v", what, was, now)
	}
}

// keysOf is so many keys, each told by its place.
func keysOf(count int, key func(i int) int) []int64 {
	keys := make([]int64, count)
	for i := range keys {
		keys[i] = int64(key(i))
	}
	return keys
}

// rising is keys from 0 on.
func rising(count int) []int64 {
	return keysOf(count, func(i int) int { return i })
}

// mixed is keys below 100, some of them alike.
func mixed(count int) []int64 {
	return keysOf(count, func(i int) int { return i * 7919 % 1009 % 100 })
}

// forOrders runs a test on keys that come in several orders.
func forOrders(count int, test func(keys []int64)) {
	falling := keysOf(count, func(i int) int { return -i })
	swung := keysOf(count, func(i int) int { return i * (1 - 2*(i%2)) })
	for _, keys := range [][]int64{rising(count), falling, mixed(count), swung, make([]int64, count)} {
		test(keys)
	}
}

// byKeys is the slots as they should come out, of which slot i has the key keys[i].
func byKeys(keys []int64) []int {
	all := make([]int, len(keys))
	for i := range all {
		all[i] = i
	}
	slices.SortStableFunc(all, func(a, b int) int {
		return entry.Compare(api.Entry{Key: keys[a]}, api.Entry{Key: keys[b]})
	})
	return all
}

// roller tells numbers below n that hang on the seed alone.
func roller(seed uint64) func(n int) int {
	mix := seed*2654435761 + 12345
	return func(n int) int {
		mix = mix*6364136223846793005 + 1442695040888963407
		return int(mix>>33) % n
	}
}

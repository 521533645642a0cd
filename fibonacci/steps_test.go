package fibonacci

import (
	"slices"
	"testing"

	"haycock/api"
)

// TestSteps: one is counted for each two slots that are held against each other, and none where there is nothing to ask.
func TestSteps(t *testing.T) {
	w := fresh(t, 8, 3)
	w.exactly(0, "Insert of one slot", func() { w.insert(1, 0, 2) })
	w.exactly(1, "Insert of two slots", func() { w.insert(1, 1, 1) })
	w.insert(2, 2, 5)
	w.exactly(0, "Meld into none", func() { w.meld(3, 2) })
	w.exactly(1, "Meld", func() { w.meld(1, 3) })
	w.exactly(0, "Meld of none", func() {
		w.want(true, func() bool { return w.Make() == 4 })
		w.meld(1, 4)
	})
	w.exactly(0, "what changes nothing", func() {
		w.Min(1)
		w.Make()
		w.Capacity()
		w.Has(1)
		w.Len(1)
		w.Entry(1)
		w.Home(1)
		w.Degree(1)
		w.Degree(-1)
		w.Roots(1)
		w.Roots(3)
	})
	w.exactly(0, "Decrease of what is first", func() { w.decrease(1, 0) })
	w.exactly(1, "Decrease of what has nothing above it", func() { w.decrease(2, 4) })
	w.exactly(0, "Delete of what isn't first", func() { w.remove(0) })
	w.exactly(0, "Extract of one of two", func() { w.extract(1, 1) })
	w.exactly(0, "Extract of the last one", func() { w.extract(1, 2) })
}

// TestStepsOfExtract: each link takes one step, and so does each tree but one that is left, as the first slot is looked for:
// together two less than there were trees and children of what came out.
func TestStepsOfExtract(t *testing.T) {
	for count := range 200 {
		w := fresh(t, count, 1)
		w.fill(1, 0, mixed(count)...)
		for range count {
			first, _ := w.Min(1)
			w.exactly(max(0, w.Roots(1)+w.Degree(first)-2), "Extract", func() { w.extract(1, first) })
		}
	}
}

// TestStepsOfDecrease: what is above a slot is asked, and, if that comes off, what is first; of those that come off behind it
// nothing is asked.
func TestStepsOfDecrease(t *testing.T) {
	w := cube(t)
	w.exactly(1, "Decrease that doesn't come up", func() { w.decrease(8, 75) })
	w.exactly(2, "Decrease that comes up", func() { w.decrease(8, 45) })
	w.exactly(1, "Decrease of what is topmost", func() { w.decrease(8, 40) })
	w.exactly(2, "Decrease to what is first", func() { w.decrease(6, 5) })
	w.wantRoots(1, 3)
	// Of 5, 6 came off: it comes off itself, as 7 does.
	w.exactly(2, "Decrease by which two come off", func() { w.decrease(7, 3) })
	w.wantRoots(1, 5)
	w.wantTrees(1)
}

// TestStepsOfFalse: a call that answers false moves nothing, and takes no steps.
func TestStepsOfFalse(t *testing.T) {
	w := fresh(t, 302, 4)
	w.fill(1, 0, mixed(200)...)
	w.fill(2, 200, mixed(100)...)
	w.meld(3, 4)
	gone := byKeys(mixed(200))[0]
	w.extract(1, gone)
	w.unmoved("what answers false", func() {
		w.exactly(0, "what answers false", func() {
			for _, h := range append([]int{0, 4, 5}, farNumbers...) {
				w.want(false, func() bool { return w.Insert(h, 300, api.Entry{}) })
				w.want(false, func() bool { return w.Meld(1, h) })
				w.want(false, func() bool { return w.Meld(h, 2) })
				w.want(false, func() bool { return w.Meld(h, h) })
			}
			for _, slot := range append([]int{1, 199, 200, 299, 302}, farNumbers...) {
				w.want(false, func() bool { return w.Insert(1, slot, api.Entry{Key: -9}) })
			}
			w.want(false, func() bool { slot, ok := w.Extract(3); return ok || slot != 0 })
			w.want(false, func() bool { return w.Decrease(gone, api.Entry{Key: -9}) })
			w.want(false, func() bool { return w.Decrease(5, api.Entry{Key: 100}) })
			w.want(false, func() bool { return w.Delete(gone) })
			w.want(false, func() bool { return w.Meld(1, 1) })
		})
	})
	w.wantTrees(5)
	if w.Len(1) != 199 || w.Len(2) != 100 || w.Make() != 5 {
		t.Error("something was changed")
	}
}

// TestMost: as many slots as there can be, in as many trees, and then in few; they come out in order.
func TestMost(t *testing.T) {
	forOrders(most, func(keys []int64) {
		w := fresh(t, most, 1)
		w.fill(1, 0, keys...)
		w.wantRoots(1, most)
		for i, slot := range byKeys(keys) {
			w.extract(1, slot)
			if i%4096 == 0 {
				w.wantUnlike(1)
				w.wantTrees(1)
			}
		}
		w.wantRoots(1, 0)
	})
}

// TestMostMelded melds as many heaps as there can be, with a tree each, by twos.
func TestMostMelded(t *testing.T) {
	w := fresh(t, most, most)
	for slot := range most {
		w.insert(slot+1, slot, int64(-slot))
	}
	for apart := 1; apart < most; apart *= 2 {
		for h := 1; h <= most; h += 2 * apart {
			w.meld(h, h+apart)
		}
	}
	w.wantRoots(1, most)
	w.extract(1, most-1)
	w.wantUnlike(1)
	w.wantTrees(1)
}

// TestFewBelowMany tries to make a slot with many children and few slots below them: as often as it has as many children as
// another one, it is linked with that, whose children are taken away then.
func TestFewBelowMany(t *testing.T) {
	const capacity, times = 8192, 12
	for name, takeAway := range map[string]func(w *watched, slot int){
		"Delete":   func(w *watched, slot int) { w.remove(slot) },
		"Decrease": func(w *watched, slot int) { w.decrease(slot, -1<<62); w.extract(1, slot) },
	} {
		w := fresh(t, capacity, 1)
		w.insert(1, 0, 0)
		taken, slot := 0, 0
		for range times {
			for range 1 << w.Degree(0) {
				slot = w.unheld(slot)
				w.insert(1, slot, int64(slot))
			}
			out := w.unheld(slot)
			w.insert(1, out, -1)
			w.extract(1, out)
			for x, up := range w.ups() {
				if up != none && up != 0 && w.forest.nodes[x].up == up {
					takeAway(w, x)
					taken++
				}
			}
			w.wantTrees(1)
		}
		if taken < times {
			t.Errorf("%s: %d children were taken away", name, taken)
		}
	}
}

// unheld is a slot that is in no heap, the next one behind that, or from the beginning on.
func (w *watched) unheld(behind int) int {
	w.t.Helper()
	for i := range w.Capacity() {
		slot := (behind + 1 + i) % w.Capacity()
		if _, in := w.Home(slot); !in {
			return slot
		}
	}
	w.t.Fatal("all slots are in heaps")
	return 0
}

// TestLongWay: a way down as long as there is room, of slots each of which lost a child. Once the last one comes off, all of
// them come off, and nothing is asked of them.
func TestLongWay(t *testing.T) {
	const long = most - 8
	w, last := hungDown(t, long)
	if got := w.depth(last); got != long-1 {
		t.Fatalf("%d is %d below what is topmost", last, got)
	}
	w.wantRoots(1, 1)
	w.wantTrees(1)
	w.exactly(2, "Decrease", func() { w.decrease(last, -1<<62) })
	w.wantRoots(1, long)
	w.wantFirst(1, last)
	w.wantTrees(1)
	w.extract(1, last)
	w.wantUnlike(1)
	w.wantTrees(1)
}

// TestDeleteOnLongWay: one comes out from the midst of such a way, and all above it come off.
func TestDeleteOnLongWay(t *testing.T) {
	const long = 5000
	w, last := hungDown(t, long)
	slot := last
	for range long / 2 {
		slot = w.forest.nodes[slot].up
	}
	w.exactly(0, "Delete", func() { w.remove(slot) })
	w.wantRoots(1, long/2)
	if got := w.depth(last); got != long/2-1 {
		t.Fatalf("%d is %d below what is topmost", last, got)
	}
	w.wantTrees(1)
}

// depth is how many slots are above one.
func (w *watched) depth(slot int) int {
	depth := 0
	for up := w.forest.nodes[slot].up; up != none; up = w.forest.nodes[up].up {
		depth++
	}
	return depth
}

// hungDown is a heap of one tree: a way down of so many slots, of which all but the topmost one lost a child, and one slot
// beside it. It tells the last one, too.
func hungDown(t *testing.T, long int) (*watched, int) {
	t.Helper()
	b := &builder{watched: fresh(t, most, 1)}
	for slot := range most {
		b.free = append(b.free, slot)
	}
	top := b.four(0)
	side, last := b.pruned(top)
	b.drop(b.forest.nodes[last].kid)
	for on := 2; on < long; on++ {
		below := top
		top = b.four(int64(-10 * on))
		b.drop(side)
		var rest int
		side, rest = b.pruned(top, below)
		b.drop(b.forest.nodes[rest].kid)
		b.drop(rest)
	}
	return b.watched, last
}

// builder takes slots that are in no heap, and gives them back.
type builder struct {
	*watched
	free []int
}

// take puts a slot into the heap.
func (b *builder) take(k int64) int {
	slot := b.free[len(b.free)-1]
	b.free = b.free[:len(b.free)-1]
	b.insert(1, slot, k)
	return slot
}

// drop takes one out.
func (b *builder) drop(slot int) {
	b.remove(slot)
	b.free = append(b.free, slot)
}

// four puts four slots into the heap, from a key on, and links all there is. It tells the first one of them.
func (b *builder) four(k int64) int {
	first := b.take(k)
	for i := range int64(3) {
		b.take(k + 1 + i)
	}
	b.drop(b.take(k - 1))
	return first
}

// pruned is what is below a slot, but for what is told: one without children, and one with an only one.
func (b *builder) pruned(top int, but ...int) (int, int) {
	b.t.Helper()
	byDegree := map[int]int{}
	for _, kid := range b.kidsBehind(1, top) {
		if !slices.Contains(but, kid) {
			byDegree[b.Degree(kid)] = kid
		}
	}
	leaf, ok := byDegree[0]
	other, both := byDegree[1]
	if !ok || !both || len(byDegree) != 2 {
		b.t.Fatalf("below %d are %v, by their degrees", top, byDegree)
	}
	return leaf, other
}

// TestInAndOut: as what comes out comes in again, behind all others or ahead of them, few steps are taken.
func TestInAndOut(t *testing.T) {
	const count, rounds = 512, 20000
	for _, by := range []int64{0, 1, 100, 10000} {
		forOrders(count, func(keys []int64) {
			w := fresh(t, count, 1)
			w.fill(1, 0, keys...)
			for i := range rounds {
				slot, ok := w.Min(1)
				if !ok {
					t.Fatal("nothing is in it")
				}
				e, _ := w.Entry(slot)
				w.extract(1, slot)
				w.insert(1, slot, e.Key+by*int64(i%3-1))
			}
			w.wantTrees(1)
		})
	}
}

// TestDecreaseAgain: as slots come off again and again, to be the first one, or to stay behind, and what is first comes out,
// all calls together take few steps, and no tree gets lost.
func TestDecreaseAgain(t *testing.T) {
	const count, rounds = 512, 20000
	for _, step := range []int{1, 3, 131, 511} {
		for _, each := range []int{1, 2, 16} {
			forOrders(count, func(keys []int64) {
				w := fresh(t, count, 1)
				w.fill(1, 0, keys...)
				for i := range rounds {
					slot := i * step % count
					e, _ := w.Entry(slot)
					w.decrease(slot, e.Key-int64(i%2*i))
					if i%each == 0 {
						first, _ := w.Min(1)
						e, _ := w.Entry(first)
						w.extract(1, first)
						w.insert(1, first, e.Key+int64(i%count))
					}
				}
				w.wantTrees(1)
			})
		}
	}
}

// TestDeleteAgain: as slots come out from anywhere, and in again, all calls together take few steps.
func TestDeleteAgain(t *testing.T) {
	const count, rounds = 512, 20000
	for _, step := range []int{1, 3, 131, 511} {
		forOrders(count, func(keys []int64) {
			w := fresh(t, count, 1)
			w.fill(1, 0, keys...)
			for i := range rounds {
				slot := i * step % count
				w.remove(slot)
				w.insert(1, slot, keys[slot]-int64(i%7))
			}
			w.wantTrees(1)
		})
	}
}

package fibonacci

import (
	"math/bits"
	"testing"

	"haycock/api"
)

// TestNew: all edges of what a capacity may be.
func TestNew(t *testing.T) {
	for _, capacity := range farNumbers {
		if n, e := New(capacity); n != nil || e != api.ErrRange {
			t.Errorf("New(%d) = %v, %d", capacity, n, e)
		}
	}
	for _, capacity := range []int{0, 1, 2, 65535, 65536} {
		w := fresh(t, capacity, 0)
		for _, x := range append([]int{0, 1, capacity - 1, capacity}, farNumbers...) {
			_, some := w.Min(x)
			_, in := w.Home(x)
			if w.Has(x) || w.Len(x) != 0 || some || in {
				t.Errorf("New(%d) has %d", capacity, x)
			}
			w.wantDegree(x, 0)
			w.wantRoots(x, 0)
		}
	}
}

// TestExample is the chapter's.
func TestExample(t *testing.T) {
	forOrders(4, func(keys []int64) {
		w := fresh(t, 4, 1)
		w.fill(1, 0, keys...)
		w.wantRoots(1, 4)
		w.wantDegrees(0, 0, 0, 0)
		out := byKeys(keys)
		w.extract(1, out[0])
		w.wantRoots(1, 2)
		degrees := map[int]int{}
		for _, top := range w.tops(1) {
			degrees[w.Degree(top)]++
		}
		if len(degrees) != 2 || degrees[0] != 1 || degrees[1] != 1 {
			t.Fatalf("so many trees of each degree: %v", degrees)
		}
		w.wantOut(1, out[1:]...)
	})
}

// TestDegreeOfNone: slots that were never in a heap, or came out, and what is no slot.
func TestDegreeOfNone(t *testing.T) {
	w := fresh(t, 12, 1)
	w.fill(1, 0, rising(9)...)
	w.extract(1, 0)
	w.wantDegrees(0, 3, 0, 1, 0, 2, 0, 1, 0, 0, 0, 0)
	for _, slot := range append([]int{12, 13, 65535, 65536}, farNumbers...) {
		w.wantDegree(slot, 0)
	}
	for _, slot := range []int{5, 1, 3, 7} {
		w.remove(slot)
		w.wantDegree(slot, 0)
	}
	w.insert(1, 5, 100)
	w.wantDegree(5, 0)
	w.wantTrees(1)
}

// TestRootsOfNone: heaps with nothing in them, those that are there no more, and those that never were.
func TestRootsOfNone(t *testing.T) {
	w := fresh(t, 8, 4)
	w.fill(1, 0, 1, 2, 3)
	w.fill(2, 3, 4, 5)
	w.insert(4, 7, 1)
	w.remove(7)
	w.meld(2, 1)
	for _, h := range append([]int{0, 1, 3, 4, 5, 6, 65535, 65536}, farNumbers...) {
		w.wantRoots(h, 0)
	}
	w.wantRoots(2, 5)
	w.wantOut(2, 0, 1, 2, 3, 4)
}

// TestInsert: one tree more, each time, and nothing is moved, whatever trees there are.
func TestInsert(t *testing.T) {
	const count = 200
	forOrders(count, func(keys []int64) {
		w := fresh(t, count, 1)
		roots := 0
		for slot, k := range keys {
			w.unmoved("Insert", func() { w.insert(1, slot, k) })
			roots++
			w.wantRoots(1, roots)
			w.wantDegree(slot, 0)
			if slot%37 == 36 {
				first, _ := w.Min(1)
				w.extract(1, first)
				w.wantUnlike(1)
				roots = w.Roots(1)
			}
		}
		w.wantTrees(1)
	})
}

// TestInsertBySeq: of the same keys the lower Seq is ahead, whichever the slot, and of the same entries the lower slot.
func TestInsertBySeq(t *testing.T) {
	w := fresh(t, 5, 1)
	for slot, seq := range []uint64{1 << 63, 2, 1, 2, 1} {
		w.want(true, func() bool { return w.Insert(1, slot, api.Entry{Key: -3, Seq: seq}) })
	}
	w.wantTrees(1)
	w.wantOut(1, 2, 4, 1, 3, 0)
}

// TestMeld: the heap has as many trees as both had, and nothing is moved, whichever of them has the first slot.
func TestMeld(t *testing.T) {
	for a := range 12 {
		for b := range 12 {
			for _, outOf := range []int{0, 1, 2, 3} {
				w := fresh(t, a+b, 2)
				for slot := range a + b {
					w.insert(1+min(1, slot/max(1, a)), slot, int64(slot*7%(a+b)))
				}
				for h := 1; h <= 2; h++ {
					if first, ok := w.Min(h); ok && outOf&h != 0 {
						w.extract(h, first)
					}
				}
				both, slots := w.Roots(1)+w.Roots(2), w.Len(1)+w.Len(2)
				w.unmoved("Meld", func() { w.meld(2, 1) })
				w.wantRoots(2, both)
				w.wantRoots(1, 0)
				if w.Has(1) || w.Len(1) != 0 || w.Len(2) != slots || w.Meld(1, 2) || w.Meld(2, 1) || w.Meld(2, 2) {
					t.Fatalf("Meld of %d and %d slots", b, a)
				}
				w.wantTrees(2)
			}
		}
	}
}

// TestMeldOfLikes: trees of the same degree stay side by side, till something comes out.
func TestMeldOfLikes(t *testing.T) {
	w := fresh(t, 18, 2)
	w.fill(1, 0, rising(9)...)
	w.fill(2, 9, rising(9)...)
	w.extract(1, 0)
	w.extract(2, 9)
	w.wantRoots(1, 1)
	w.wantRoots(2, 1)
	w.meld(1, 2)
	w.wantRoots(1, 2)
	w.wantDegree(1, 3)
	w.wantDegree(10, 3)
	w.extract(1, 1)
	w.wantUnlike(1)
	w.wantTrees(2)
	w.wantOut(1, 10, 2, 11, 3, 12, 4, 13, 5, 14, 6, 15, 7, 16, 8, 17)
}

// cube is a heap of eight slots in one tree, and one that is to come: slot i has the key 10 * i. Slot 1 is above 2, 3 and 5,
// slot 3 above 4, slot 5 above 6 and 7, slot 7 above 8.
func cube(t *testing.T) *watched {
	t.Helper()
	w := fresh(t, 10, 2)
	w.fill(1, 0, keysOf(9, func(i int) int { return 10 * i })...)
	w.extract(1, 0)
	w.wantRoots(1, 1)
	w.wantDegrees(0, 3, 0, 1, 0, 2, 0, 1, 0, 0)
	return w
}

// TestDecrease: no tree gets lost, wherever the slot is; it is first, if it is ahead of all others, and stays where it is, if
// it isn't ahead of what is above it.
func TestDecrease(t *testing.T) {
	above := []int{0, 0, 1, 1, 3, 1, 5, 5, 7}
	for slot := 2; slot <= 8; slot++ {
		for _, to := range []int64{int64(10 * slot), int64(10*slot - 1), int64(10*above[slot] + 1)} {
			w := cube(t)
			w.unmoved("Decrease", func() { w.decrease(slot, to) })
			w.wantRoots(1, 1)
			w.wantFirst(1, 1)
			w.wantTrees(1)
		}
		for _, to := range []int64{int64(10*above[slot] - 1), 11, 9, -1 << 63} {
			if to >= int64(10*above[slot]) {
				continue
			}
			w := cube(t)
			degree, one := w.Degree(slot), w.Degree(above[slot])
			w.decrease(slot, to)
			w.wantRoots(1, 2)
			w.wantDegree(slot, degree)
			w.wantDegree(above[slot], one-1)
			w.wantTrees(1)
			first := 1
			if to < 10 {
				first = slot
			}
			w.wantFirst(1, first)
		}
	}
}

// TestDecreaseOfTies: of the same entries the lower slot is ahead, also of what is above it.
func TestDecreaseOfTies(t *testing.T) {
	w := fresh(t, 4, 1)
	w.fill(1, 0, 30, 20, 10, 0)
	w.extract(1, 3)
	for _, slot := range []int{0, 1} {
		w.decrease(slot, 10)
		w.wantFirst(1, 0)
		w.wantTrees(1)
	}
	w.wantOut(1, 0, 1, 2)
}

// TestDecreaseOfTop: what is topmost stays so, with the same children; it may come to be first.
func TestDecreaseOfTop(t *testing.T) {
	w := cube(t)
	w.unmoved("Decrease", func() {
		w.insert(1, 0, 15)
		w.decrease(0, 12)
		w.wantFirst(1, 1)
		w.decrease(0, 10)
		w.wantFirst(1, 0)
		w.decrease(1, 9)
		w.wantFirst(1, 1)
		w.decrease(1, 9)
		w.decrease(1, -1<<63)
		w.decrease(0, -1<<63)
		w.wantFirst(1, 0)
	})
	w.wantRoots(1, 2)
	w.wantTrees(1)
	w.wantOut(1, 0, 1, 2, 3, 4, 5, 6, 7, 8)
}

// TestDecreaseOfMany: as one slot behind the other comes off, no tree gets lost, and what was cut stays in its heap.
func TestDecreaseOfMany(t *testing.T) {
	const count = 131
	for step := 1; step < count; step += 4 {
		w := fresh(t, count, 1)
		w.fill(1, 0, rising(count)...)
		w.extract(1, 0)
		keys := rising(count)
		for i := range count {
			slot := i * step % count
			if slot == 0 {
				continue
			}
			roots := w.Roots(1)
			keys[slot] = int64(-1000 - i*(1-2*(i%2)))
			w.decrease(slot, keys[slot])
			if w.Roots(1) < roots {
				t.Fatalf("Decrease(%d) made %d trees of %d", slot, w.Roots(1), roots)
			}
			w.wantTrees(1)
		}
		for _, slot := range byKeys(keys) {
			if slot != 0 {
				w.extract(1, slot)
			}
		}
	}
}

// TestDecreaseOfNone: a greater entry, or a slot that is in no heap: nothing is moved.
func TestDecreaseOfNone(t *testing.T) {
	w := cube(t)
	w.unmoved("Decrease", func() {
		for slot := 1; slot <= 8; slot++ {
			for _, e := range []api.Entry{{Key: int64(slot * 10), Seq: 1}, {Key: int64(slot*10 + 1)}, {Key: 1<<63 - 1}} {
				w.want(false, func() bool { return w.Decrease(slot, e) })
			}
		}
		for _, slot := range append([]int{0, 9, 10, 11}, farNumbers...) {
			w.want(false, func() bool { return w.Decrease(slot, api.Entry{Key: -9}) })
		}
	})
	w.wantRoots(1, 1)
	w.wantFirst(1, 1)
	w.wantTrees(2)
}

// TestExtract: of so many slots there are as many trees as ones among their number's binary digits, for nothing came off.
func TestExtract(t *testing.T) {
	for count := range 140 {
		forOrders(count, func(keys []int64) {
			w := fresh(t, count, 1)
			w.fill(1, 0, keys...)
			out := byKeys(keys)
			for i, slot := range out {
				w.extract(1, slot)
				w.wantUnlike(1)
				if i == 0 {
					w.wantRoots(1, bits.OnesCount(uint(count-1)))
				}
			}
			w.wantRoots(1, 0)
			w.wantTrees(1)
		})
	}
}

// TestExtractOfUnlike: trees of several degrees, each of which is there several times.
func TestExtractOfUnlike(t *testing.T) {
	const each = 20
	w := fresh(t, each*each, each)
	slot := 0
	for h := 1; h <= each; h++ {
		for i := range h {
			w.insert(h, slot, int64(slot*i%7))
			slot++
		}
		first, _ := w.Min(h)
		w.extract(h, first)
		if h > 1 {
			w.meld(h, h-1)
		}
	}
	if w.Roots(each) <= 20 {
		t.Fatalf("%d trees", w.Roots(each))
	}
	for w.Len(each) > 0 {
		first, _ := w.Min(each)
		w.extract(each, first)
		w.wantUnlike(each)
		w.wantTrees(each)
	}
}

// TestExtractOfNone: heaps with nothing in them, and those that aren't there: nothing is linked.
func TestExtractOfNone(t *testing.T) {
	w := cube(t)
	w.insert(1, 0, 5)
	w.insert(1, 9, 5)
	w.unmoved("Extract", func() {
		for _, h := range append([]int{0, 2, 3}, farNumbers...) {
			w.want(false, func() bool { slot, ok := w.Extract(h); return ok || slot != 0 })
			w.want(false, func() bool { slot, ok := w.Min(h); return ok || slot != 0 })
		}
	})
	w.wantRoots(1, 3)
	w.wantTrees(2)
}

// TestDelete: a slot comes out from each place of a tree; what was below it stays in the heap.
func TestDelete(t *testing.T) {
	for gone := 1; gone <= 8; gone++ {
		w := cube(t)
		w.remove(gone)
		if _, in := w.Home(gone); in || w.Len(1) != 7 {
			t.Fatalf("%d is in a heap yet", gone)
		}
		w.wantDegree(gone, 0)
		w.wantTrees(2)
		w.want(false, func() bool { return w.Delete(gone) })
		for slot := 1; slot <= 8; slot++ {
			if slot != gone {
				w.extract(1, slot)
			}
		}
	}
}

// TestDeleteOfNone: a slot that is in no heap, or none at all.
func TestDeleteOfNone(t *testing.T) {
	w := cube(t)
	w.unmoved("Delete", func() {
		for _, slot := range append([]int{0, 9, 10, 11}, farNumbers...) {
			w.want(false, func() bool { return w.Delete(slot) })
		}
	})
	w.wantRoots(1, 1)
	w.wantTrees(2)
}

// TestSlotAgain: a slot that came out comes in again, as one without children, into any heap.
func TestSlotAgain(t *testing.T) {
	for slot := 1; slot <= 8; slot++ {
		w := cube(t)
		w.remove(slot)
		w.insert(2, slot, 5)
		w.wantFirst(2, slot)
		w.wantDegree(slot, 0)
		w.remove(slot)
		w.insert(1, slot, -5)
		w.wantFirst(1, slot)
		w.wantTrees(2)
		w.insert(2, 0, 1)
		w.meld(2, 1)
		w.wantTrees(2)
		w.extract(2, slot)
		w.extract(2, 0)
	}
}

// TestOut: whatever comes in comes out in order.
func TestOut(t *testing.T) {
	for _, count := range []int{0, 1, 2, 3, 4, 7, 8, 9, 63, 64, 500} {
		forOrders(count, func(keys []int64) {
			w := fresh(t, count, 1)
			w.fill(1, 0, keys...)
			w.wantTrees(1)
			w.wantOut(1, byKeys(keys)...)
			w.wantTrees(1)
		})
	}
}

// TestNothingIsKept: of a heap with nothing in it nothing is kept.
func TestNothingIsKept(t *testing.T) {
	w := fresh(t, 4, 4)
	w.fill(1, 0, 1, 2)
	w.fill(2, 2, 3)
	w.meld(3, 4)
	w.meld(3, 1)
	w.meld(2, 3)
	if len(w.trees) != 1 {
		t.Fatalf("%d heaps are kept, not one", len(w.trees))
	}
	w.remove(1)
	w.wantOut(2, 0, 2)
	if len(w.trees) != 0 {
		t.Errorf("%d heaps are kept, though nothing is in them", len(w.trees))
	}
	w.wantTrees(4)
}

// TestMixedWays holds the trees, and how many there are, behind each of many calls, which hang on a number that is mixed
// again and again.
func TestMixedWays(t *testing.T) {
	for seed := range uint64(80) {
		roll := roller(seed)
		capacity, heaps := 1+roll(60), 1+roll(5)
		w := fresh(t, capacity, heaps)
		for range 500 {
			h, other, slot := roll(heaps+2), roll(heaps+2), roll(capacity+2)-1
			e := api.Entry{Key: int64(roll(40)), Seq: uint64(roll(2))}
			switch roll(12) {
			case 0:
				w.mixExtract(h)
			case 1:
				w.any(func() bool { return w.Delete(slot) })
			case 2, 3, 4:
				w.mixDecrease(slot, e)
			case 5:
				w.mixMeld(h, other)
			case 6:
				heaps++
				w.want(true, func() bool { return w.Make() == heaps })
			default:
				w.mixInsert(h, slot, e)
			}
			w.wantTrees(heaps)
		}
	}
}

// any does a call, whatever it answers, and tells that.
func (w *watched) any(do func() bool) bool {
	w.t.Helper()
	var got bool
	w.want(true, func() bool { got = do(); return true })
	return got
}

func (w *watched) mixExtract(h int) {
	w.t.Helper()
	if w.any(func() bool { _, ok := w.Extract(h); return ok }) {
		w.wantUnlike(h)
	}
}

func (w *watched) mixDecrease(slot int, e api.Entry) {
	w.t.Helper()
	h, _ := w.Home(slot)
	roots := w.Roots(h)
	w.any(func() bool { return w.Decrease(slot, e) })
	if w.Roots(h) < roots {
		w.t.Fatalf("Decrease(%d) made %d trees of %d", slot, w.Roots(h), roots)
	}
}

func (w *watched) mixMeld(a, b int) {
	w.t.Helper()
	roots := [2]int{w.Roots(a), w.Roots(b)}
	w.unmoved("Meld", func() {
		w.t.Helper()
		if w.any(func() bool { return w.Meld(a, b) }) {
			roots = [2]int{roots[0] + roots[1], 0}
		}
	})
	w.wantRoots(a, roots[0])
	w.wantRoots(b, roots[1])
}

func (w *watched) mixInsert(h, slot int, e api.Entry) {
	w.t.Helper()
	roots := w.Roots(h)
	w.unmoved("Insert", func() {
		w.t.Helper()
		if w.any(func() bool { return w.Insert(h, slot, e) }) {
			roots++
		}
	})
	w.wantRoots(h, roots)
}

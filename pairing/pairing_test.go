package pairing

import (
	"slices"
	"testing"

	"haycock/api"
)

// TestNew: all edges of what a capacity may be.
func TestNew(t *testing.T) {
	for _, capacity := range farNumbers {
		if n, e := New(capacity); n != nil || e != api.ErrRange {
			t.Errorf("New(%d) = %v, %d", capacity, n, e)
		}
	}
	for _, capacity := range []int{0, 1, 2, 65535, 65536} {
		w := fresh(t, capacity, 0)
		for _, x := range append([]int{0, 1, capacity - 1, capacity}, farNumbers...) {
			_, some := w.Min(x)
			_, in := w.Home(x)
			if w.Has(x) || w.Len(x) != 0 || some || in {
				t.Errorf("New(%d) has %d", capacity, x)
			}
			w.wantKids(x)
		}
	}
}

// TestExample is the chapter's.
func TestExample(t *testing.T) {
	w := fresh(t, 4, 1)
	w.fill(1, 0, 1, 2, 3, 4)
	w.wantKids(0, 3, 2, 1)
	w.extract(1, 0)
	w.wantTop(1, 1)
	w.wantKids(1, 2)
	w.wantKids(2, 3)
}

// TestKidsOfNone: slots without children, slots that are in no heap, and what is no slot.
func TestKidsOfNone(t *testing.T) {
	w := fresh(t, 6, 2)
	w.fill(1, 0, 1, 2, 3)
	w.fill(2, 3, 9)
	w.extract(1, 0)
	for _, slot := range append([]int{0, 2, 3, 4, 5, 6, 65535, 65536}, farNumbers...) {
		w.wantKids(slot)
	}
	w.wantKids(1, 2)
	w.remove(1)
	w.wantKids(1)
	w.remove(2)
	w.wantKids(2)
}

// TestKidsAreNew: an answer may be written over, spare room too: it is nothing to the nest, nor to another answer.
func TestKidsAreNew(t *testing.T) {
	w := fresh(t, 40, 1)
	w.insert(1, 0, 0)
	var want []int
	for slot := 1; slot < 40; slot++ {
		w.insert(1, slot, int64(slot))
		want = append([]int{slot}, want...)
		kids, again := w.Kids(0), w.Kids(0)
		kids = kids[:cap(kids)]
		for i := range kids {
			kids[i] = -7
		}
		w.wantKids(0, want...)
		if !slices.Equal(again, want) {
			t.Fatalf("another answer is %v", again)
		}
	}
	w.wantTrees(1)
}

// TestInsert: a slot that comes in is either the newest child of what is topmost, or above it.
func TestInsert(t *testing.T) {
	w := fresh(t, 8, 1)
	w.insert(1, 4, 50)
	w.wantTop(1, 4)
	w.wantKids(4)
	w.insert(1, 1, 60)
	w.insert(1, 0, 55)
	w.wantKids(4, 0, 1)
	w.insert(1, 7, 40)
	w.wantTop(1, 7)
	w.wantKids(7, 4)
	w.wantKids(4, 0, 1)
	w.insert(1, 6, 45)
	w.wantKids(7, 6, 4)
	// Of the same entries the lower slot is ahead.
	w.insert(1, 5, 40)
	w.wantTop(1, 5)
	w.wantKids(5, 7)
	w.wantKids(7, 6, 4)
	w.wantTrees(1)
	w.wantOut(1, 5, 7, 6, 4, 0, 1)
}

// TestInsertBySeq: of the same keys the lower Seq is ahead, whichever the slot.
func TestInsertBySeq(t *testing.T) {
	w := fresh(t, 3, 1)
	for slot, seq := range []uint64{1 << 63, 1, 2} {
		w.want(true, func() bool { return w.Insert(1, slot, api.Entry{Key: -3, Seq: seq}) })
	}
	w.wantKids(1, 2, 0)
	w.wantOut(1, 1, 2, 0)
}

// TestMeld: the one that is ahead of both topmost slots has the other one as its newest child, whichever heap it was in.
func TestMeld(t *testing.T) {
	for _, firstAhead := range []bool{true, false} {
		w := fresh(t, 6, 3)
		w.fill(1, 0, 1, 5, 6)
		w.fill(2, 3, 2, 3, 4)
		a, b := 1, 2
		if !firstAhead {
			a, b = 2, 1
		}
		w.exactly(1, "Meld", func() { w.meld(a, b) })
		w.wantTop(a, 0)
		w.wantKids(0, 3, 2, 1)
		w.wantKids(3, 5, 4)
		if w.Has(b) || w.Len(b) != 0 || w.Len(a) != 6 || w.Meld(a, b) || w.Meld(b, a) || w.Meld(a, a) {
			t.Fatalf("Meld of %d and %d", a, b)
		}
		w.wantTrees(3)
		w.wantOut(a, 0, 3, 4, 5, 1, 2)
	}
}

// TestMeldOfNone: where one heap has nothing in it, or both, nothing is linked.
func TestMeldOfNone(t *testing.T) {
	w := fresh(t, 3, 5)
	w.fill(2, 0, 1, 2, 3)
	w.exactly(0, "Meld", func() {
		w.meld(1, 2)
		w.wantKids(0, 2, 1)
		w.meld(1, 3)
		w.wantKids(0, 2, 1)
		w.meld(4, 5)
		w.meld(4, 1)
	})
	w.wantTrees(5)
	w.wantOut(4, 0, 1, 2)
}

// TestDecreaseTakesOff: whichever place among the children a slot has, it comes off with all below it, and is linked: also
// where it stays behind what was above it, and where its entry stays the same.
func TestDecreaseTakesOff(t *testing.T) {
	// Slot 0 is above 6, 5, 1; slot 1 above 4, 3, 2.
	for slot, rest := range map[int][]int{6: {5, 1}, 5: {6, 1}, 1: {6, 5}} {
		for _, to := range []int64{int64(slot * 10), int64(slot*10 - 1), 1} {
			w := nested(t)
			w.exactly(1, "Decrease", func() { w.decrease(slot, to) })
			w.wantTop(1, 0)
			w.wantKids(0, append([]int{slot}, rest...)...)
			w.wantKids(1, 4, 3, 2)
			w.wantTrees(1)
		}
		w := nested(t)
		w.exactly(1, "Decrease", func() { w.decrease(slot, -1) })
		w.wantTop(1, slot)
		w.wantKids(0, rest...)
		w.wantKids(slot, append([]int{0}, w.Kids(slot)[1:]...)...)
		w.wantTrees(1)
	}
	for slot, rest := range map[int][]int{4: {3, 2}, 3: {4, 2}, 2: {4, 3}} {
		for _, to := range []int64{int64(slot * 10), int64(slot*10 - 1), 11, 10, 9, 1} {
			w := nested(t)
			w.decrease(slot, to)
			w.wantKids(0, slot, 6, 5, 1)
			w.wantKids(1, rest...)
			w.wantKids(slot)
			w.wantTrees(1)
		}
		w := nested(t)
		w.decrease(slot, -1)
		w.wantTop(1, slot)
		w.wantKids(slot, 0)
		w.wantKids(0, 6, 5, 1)
		w.wantKids(1, rest...)
		w.wantTrees(1)
	}
}

// nested is a heap of seven slots, with keys of ten times their numbers: slot 0 is above 6, 5 and 1, and that above 4, 3
// and 2.
func nested(t *testing.T) *watched {
	t.Helper()
	w := fresh(t, 7, 2)
	w.fill(2, 1, 10, 20, 30, 40)
	w.insert(1, 0, 0)
	w.meld(1, 2)
	w.fill(1, 5, 50, 60)
	w.wantKids(0, 6, 5, 1)
	w.wantKids(1, 4, 3, 2)
	return w
}

// TestDecreaseOfTop: what is topmost stays so, with the same children, and nothing is linked.
func TestDecreaseOfTop(t *testing.T) {
	w := nested(t)
	w.exactly(0, "Decrease", func() {
		for _, to := range []int64{0, -1, -1 << 63, -1 << 63} {
			w.decrease(0, to)
			w.wantTop(1, 0)
			w.wantKids(0, 6, 5, 1)
			w.wantKids(1, 4, 3, 2)
		}
	})
	w.wantTrees(1)
	w.remove(0)
	w.wantTrees(1)
	alone := fresh(t, 1, 1)
	alone.insert(1, 0, 5)
	alone.decrease(0, 4)
	alone.wantTop(1, 0)
	alone.wantOut(1, 0)
}

// TestDecreaseOfNone: a greater entry, or a slot that is in no heap: nothing is taken off.
func TestDecreaseOfNone(t *testing.T) {
	w := nested(t)
	w.exactly(0, "Decrease", func() {
		for slot := range 7 {
			for _, e := range []api.Entry{{Key: int64(slot * 10), Seq: 1}, {Key: int64(slot*10 + 1)}, {Key: 1<<63 - 1}} {
				w.want(false, func() bool { return w.Decrease(slot, e) })
			}
		}
		for _, slot := range append([]int{7, 8}, farNumbers...) {
			w.want(false, func() bool { return w.Decrease(slot, api.Entry{Key: -9}) })
		}
		w.wantTop(1, 0)
		w.wantKids(0, 6, 5, 1)
		w.wantKids(1, 4, 3, 2)
	})
	w.remove(1)
	w.want(false, func() bool { return w.Decrease(1, api.Entry{Key: -9}) })
	w.wantTrees(2)
}

// TestDeleteByTwos: what is topmost comes out from above so many children, of which the newest one has the highest slot: of
// seven, 7 and 6 are linked, 5 and 4, 3 and 2; then 2 and 1, 4 and that, 6 and that.
func TestDeleteByTwos(t *testing.T) {
	for _, try := range []struct {
		count int
		// rises: the newest child is behind all others; else it is ahead of them.
		rises bool
		// kids are the children of each slot that has some.
		kids map[int][]int
	}{
		{1, true, nil},
		{1, false, nil},
		{2, true, map[int][]int{1: {2}}},
		{2, false, map[int][]int{2: {1}}},
		{3, true, map[int][]int{1: {2}, 2: {3}}},
		{3, false, map[int][]int{3: {1, 2}}},
		{4, true, map[int][]int{1: {3, 2}, 3: {4}}},
		{4, false, map[int][]int{2: {1}, 4: {2, 3}}},
		{5, true, map[int][]int{1: {4, 2}, 2: {3}, 4: {5}}},
		{5, false, map[int][]int{3: {1, 2}, 5: {3, 4}}},
		{6, true, map[int][]int{1: {5, 3, 2}, 3: {4}, 5: {6}}},
		{6, false, map[int][]int{2: {1}, 4: {2, 3}, 6: {4, 5}}},
		{7, true, map[int][]int{1: {6, 4, 2}, 2: {3}, 4: {5}, 6: {7}}},
		{7, false, map[int][]int{3: {1, 2}, 5: {3, 4}, 7: {5, 6}}},
	} {
		for _, below := range []bool{false, true} {
			w := above(t, try.count, try.rises, below)
			steps := try.count - 1
			if below {
				steps++
			}
			w.exactly(steps, "Delete", func() { w.remove(0) })
			top := 1
			if !try.rises {
				top = try.count
			}
			if below {
				w.wantKids(9, top)
			} else {
				w.wantTop(1, top)
			}
			for slot := range 9 {
				w.wantKids(slot, try.kids[slot]...)
			}
			w.wantTrees(1)
		}
	}
}

// above is a heap in which slot 0 is above so many children, the newest one with the highest slot; it is below slot 9, or
// topmost.
func above(t *testing.T, count int, rises, below bool) *watched {
	t.Helper()
	w := fresh(t, 10, 1)
	w.insert(1, 0, -100)
	for slot := 1; slot <= count; slot++ {
		if rises {
			w.insert(1, slot, int64(slot))
		} else {
			w.insert(1, slot, int64(-slot))
		}
	}
	if below {
		w.insert(1, 9, -200)
	}
	return w
}

// TestDelete: a slot comes out from each place of a heap; what was below it is the newest child of what is topmost.
func TestDelete(t *testing.T) {
	w := nested(t)
	w.remove(0)
	w.wantTop(1, 1)
	w.wantKids(1, 5, 4, 3, 2)
	w.wantKids(5, 6)
	w = nested(t)
	w.remove(1)
	w.wantTop(1, 0)
	w.wantKids(0, 2, 6, 5)
	w.wantKids(2, 3)
	w.wantKids(3, 4)
	for gone, kids := range map[int][2][]int{
		6: {{5, 1}, {4, 3, 2}}, 5: {{6, 1}, {4, 3, 2}},
		4: {{6, 5, 1}, {3, 2}}, 3: {{6, 5, 1}, {4, 2}}, 2: {{6, 5, 1}, {4, 3}},
	} {
		w = nested(t)
		w.exactly(0, "Delete", func() { w.remove(gone) })
		w.wantTop(1, 0)
		w.wantKids(0, kids[0]...)
		w.wantKids(1, kids[1]...)
		w.wantTrees(2)
		if _, in := w.Home(gone); in || w.Len(1) != 6 {
			t.Fatalf("%d is in a heap yet", gone)
		}
		w.want(false, func() bool { return w.Delete(gone) })
	}
}

// TestDeleteOfNone: a slot that is in no heap, or none at all.
func TestDeleteOfNone(t *testing.T) {
	w := nested(t)
	w.exactly(0, "Delete", func() {
		for _, slot := range append([]int{7, 8}, farNumbers...) {
			w.want(false, func() bool { return w.Delete(slot) })
		}
		for _, h := range append([]int{0, 2, 3}, farNumbers...) {
			w.want(false, func() bool { slot, ok := w.Extract(h); return ok || slot != 0 })
			w.want(false, func() bool { slot, ok := w.Min(h); return ok || slot != 0 })
		}
	})
	w.wantKids(0, 6, 5, 1)
	w.wantKids(1, 4, 3, 2)
}

// TestExtractIsDeleteOfMin: of two nests that were alike one extracts, the other one deletes its Min.
func TestExtractIsDeleteOfMin(t *testing.T) {
	const count = 60
	forOrders(count, func(keys []int64) {
		a, b := fresh(t, count, 1), fresh(t, count, 1)
		a.fill(1, 0, keys...)
		b.fill(1, 0, keys...)
		for _, slot := range byKeys(keys) {
			a.extract(1, slot)
			b.wantTop(1, slot)
			b.remove(slot)
			for x := range count {
				a.wantKids(x, b.Kids(x)...)
			}
			if a.Steps() != b.Steps() {
				t.Fatalf("Extract took %d steps, Delete %d", a.Steps(), b.Steps())
			}
		}
	})
}

// TestSlotAgain: a slot that came out comes in again, as one without children, into any heap.
func TestSlotAgain(t *testing.T) {
	for slot := range 7 {
		w := nested(t)
		w.want(true, func() bool { return w.Make() == 3 })
		w.remove(slot)
		w.insert(3, slot, 5)
		w.wantTop(3, slot)
		w.wantKids(slot)
		w.remove(slot)
		w.insert(1, slot, -5)
		w.wantTop(1, slot)
		w.wantTrees(3)
	}
}

// TestOut: whatever comes in comes out in order.
func TestOut(t *testing.T) {
	for _, count := range []int{0, 1, 2, 3, 4, 7, 8, 9, 63, 64, 500} {
		forOrders(count, func(keys []int64) {
			w := fresh(t, count, 1)
			for slot, k := range keys {
				w.insert(1, slot, k)
				w.wantTrees(1)
			}
			w.wantOut(1, byKeys(keys)...)
		})
	}
}

// TestNothingIsKept: of a heap with nothing in it nothing is kept.
func TestNothingIsKept(t *testing.T) {
	w := fresh(t, 4, 4)
	w.fill(1, 0, 1, 2)
	w.fill(2, 2, 3)
	w.meld(3, 4)
	w.meld(3, 1)
	w.meld(2, 3)
	if len(w.tops) != 1 {
		t.Fatalf("%d heaps are kept, not one", len(w.tops))
	}
	w.remove(1)
	w.wantOut(2, 0, 2)
	if len(w.tops) != 0 {
		t.Errorf("%d heaps are kept, though nothing is in them", len(w.tops))
	}
	for slot, x := range w.forest.ties {
		if x != (tie{none, none, none}) {
			t.Errorf("%d is tied yet: %v", slot, x)
		}
	}
}

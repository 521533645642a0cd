package pairing

import (
	"testing"

	"haycock/api"
	"haycock/gauge"
)

// TestSteps: one is counted for each two trees that are linked, and none where there is nothing to link.
func TestSteps(t *testing.T) {
	w := fresh(t, 6, 3)
	w.exactly(0, "Insert of one slot", func() { w.insert(1, 0, 2) })
	w.exactly(1, "Insert of two slots", func() { w.insert(1, 1, 1) })
	w.insert(2, 2, 5)
	w.exactly(0, "Meld into none", func() { w.meld(3, 2) })
	w.exactly(1, "Meld", func() { w.meld(1, 3) })
	w.exactly(0, "what changes nothing", func() {
		w.Min(1)
		w.Make()
		w.Capacity()
		w.Has(1)
		w.Len(1)
		w.Entry(1)
		w.Home(1)
		w.Kids(1)
		w.Kids(-1)
	})
	w.exactly(0, "Delete of what has nothing below it", func() { w.remove(0) })
	w.exactly(1, "Decrease", func() { w.decrease(2, 0) })
	w.exactly(0, "Decrease of what has nothing above it", func() { w.decrease(2, -1) })
	w.exactly(0, "Extract of what has one slot below it", func() { w.extract(1, 2) })
	w.exactly(0, "Extract of the last one", func() { w.extract(1, 1) })
}

// TestStepsOfFalse: a call that answers false changes nothing, and links nothing.
func TestStepsOfFalse(t *testing.T) {
	w := fresh(t, 302, 4)
	w.fill(1, 0, mixed(200)...)
	w.fill(2, 200, mixed(100)...)
	w.meld(3, 4)
	var kids [302][]int
	for slot := range kids {
		kids[slot] = w.Kids(slot)
	}
	w.exactly(0, "what answers false", func() {
		for _, h := range append([]int{0, 4, 5}, farNumbers...) {
			w.want(false, func() bool { return w.Insert(h, 300, api.Entry{}) })
			w.want(false, func() bool { return w.Meld(1, h) })
			w.want(false, func() bool { return w.Meld(h, 2) })
			w.want(false, func() bool { return w.Meld(h, h) })
		}
		for _, slot := range append([]int{0, 199, 200, 299, 302}, farNumbers...) {
			w.want(false, func() bool { return w.Insert(1, slot, api.Entry{Key: -9}) })
		}
		w.want(false, func() bool { slot, ok := w.Extract(3); return ok || slot != 0 })
		w.want(false, func() bool { return w.Decrease(5, api.Entry{Key: 100}) })
		w.want(false, func() bool { return w.Meld(1, 1) })
	})
	for slot := range kids {
		w.wantKids(slot, kids[slot]...)
	}
	if w.Len(1) != 200 || w.Len(2) != 100 || w.Make() != 5 {
		t.Error("something was changed")
	}
	w.wantTrees(5)
}

// TestLongRow: above as many children as there can be one call takes as many steps; but then the rows are short.
func TestLongRow(t *testing.T) {
	w := fresh(t, most, 1)
	w.fill(1, 0, rising(most)...)
	if got := len(w.Kids(0)); got != most-1 {
		t.Fatalf("%d children", got)
	}
	w.exactly(most-2, "the first Extract", func() { w.extract(1, 0) })
	w.wantTrees(1)
	// It is above 32767 slots: each was the first one of two.
	w.exactly(most/2-2, "the second Extract", func() { w.extract(1, 1) })
	w.wantTrees(1)
	for slot := 2; slot < most; slot++ {
		w.extract(1, slot)
	}
	if bound := gauge.Whole(config, 2*most+1); w.Steps() > bound {
		t.Errorf("%d steps of %d", w.Steps(), bound)
	}
}

// TestDeepTree: a tree as deep as there are slots, of which slots come up and out from its end, its top and between.
func TestDeepTree(t *testing.T) {
	for _, step := range []int{1, -1, 40503} {
		w := fresh(t, most, 1)
		keys := falling(most)
		w.fill(1, 0, keys...)
		w.wantTrees(1)
		slotAt := func(i int) int { return (i*step%most + most) % most }
		for i := range most / 2 {
			slot := slotAt(2 * i)
			keys[slot] = min(keys[slot], int64(-i-most/2))
			w.decrease(slot, keys[slot])
		}
		w.wantTrees(1)
		gone := map[int]bool{}
		for i := range most / 4 {
			gone[slotAt(4*i)] = true
			w.remove(slotAt(4 * i))
		}
		w.wantTrees(1)
		for _, slot := range byKeys(keys) {
			if !gone[slot] {
				w.extract(1, slot)
			}
		}
		if w.Len(1) != 0 || !w.Has(1) {
			t.Fatalf("%d slots are left", w.Len(1))
		}
	}
}

// TestInAndOut: as what comes out comes in again, behind all others or ahead of them, no row stays long.
func TestInAndOut(t *testing.T) {
	const count, rounds = 512, 20000
	for _, by := range []int64{0, 1, 100, 10000} {
		forOrders(count, func(keys []int64) {
			w := fresh(t, count, 1)
			w.fill(1, 0, keys...)
			for i := range rounds {
				slot, ok := w.Min(1)
				if !ok {
					t.Fatal("nothing is in it")
				}
				e, _ := w.Entry(slot)
				w.extract(1, slot)
				w.insert(1, slot, e.Key+by*int64(i%3-1))
			}
			w.wantTrees(1)
		})
	}
}

// TestDecreaseAgain: as slots come off again and again, to be the first one, or to stay behind, and what is topmost comes out,
// all calls together take few steps.
func TestDecreaseAgain(t *testing.T) {
	const count, rounds = 512, 20000
	for _, step := range []int{1, 3, 131, 511} {
		for _, each := range []int{1, 2, 16} {
			forOrders(count, func(keys []int64) {
				w := fresh(t, count, 1)
				w.fill(1, 0, keys...)
				for i := range rounds {
					slot := i * step % count
					e, _ := w.Entry(slot)
					w.decrease(slot, e.Key-int64(i%2))
					if i%each == 0 {
						top, _ := w.Min(1)
						first, _ := w.Entry(top)
						w.extract(1, top)
						w.insert(1, top, first.Key+int64(i%count))
					}
				}
				w.wantTrees(1)
			})
		}
	}
}

// TestDeleteAgain: as slots come out from anywhere, and in again, all calls together take few steps.
func TestDeleteAgain(t *testing.T) {
	const count, rounds = 512, 20000
	for _, step := range []int{1, 3, 131, 511} {
		forOrders(count, func(keys []int64) {
			w := fresh(t, count, 1)
			w.fill(1, 0, keys...)
			for i := range rounds {
				slot := i * step % count
				w.remove(slot)
				w.insert(1, slot, keys[slot]-int64(i%7))
			}
			w.wantTrees(1)
		})
	}
}

// TestMeldOfLikes melds heaps of one size each, by twos, and takes all out.
func TestMeldOfLikes(t *testing.T) {
	const each = 8
	heaps := most / each
	w := fresh(t, most, heaps)
	for h := range heaps {
		for i := range each {
			w.insert(h+1, h*each+i, int64(i*heaps+h))
		}
	}
	for apart := 1; apart < heaps; apart *= 2 {
		for h := 1; h <= heaps; h += 2 * apart {
			w.meld(h, h+apart)
		}
	}
	w.wantTrees(heaps)
	for i := range most {
		w.extract(1, i%heaps*each+i/heaps)
	}
}

package dary

import (
	"slices"
	"strconv"
	"testing"

	"haycock/api"
	"haycock/gauge"
)

// forDegrees runs a test of each degree there can be.
func forDegrees(t *testing.T, test func(t *testing.T, d int)) {
	t.Helper()
	for d := 2; d <= 16; d++ {
		t.Run(strconv.Itoa(d), func(t *testing.T) { test(t, d) })
	}
}

// fresh is a new nest with so many heaps.
func fresh(t *testing.T, capacity, d, heaps int) *Nest {
	t.Helper()
	n, e := New(capacity, d)
	if e != api.OK || n == nil || n.Capacity() != capacity || n.Degree() != d || n.Steps() != 0 {
		t.Fatalf("New(%d, %d) = %v, %d", capacity, d, n, e)
	}
	for i := range heaps {
		if h := n.Make(); h != i+1 {
			t.Fatalf("Make() = %d, not %d", h, i+1)
		}
	}
	return n
}

// limit is how many steps a call may take, but Meld, upon a heap with so many slots.
func limit(d, in int) int {
	return gauge.Limit(api.Config{Kind: api.KindDary, D: d}, in+1)
}

// within does something, and asks for no more steps than that.
func within(t *testing.T, n *Nest, most int, do func() bool) {
	t.Helper()
	steps := n.Steps()
	if !do() {
		t.Fatal("it answered false")
	}
	if took := n.Steps() - steps; took < 0 || took > most {
		t.Fatalf("it took %d steps, not at most %d", took, most)
	}
}

// fill puts keys into a heap, from a slot on.
func fill(t *testing.T, n *Nest, h, slot int, keys ...int64) {
	t.Helper()
	for i, k := range keys {
		within(t, n, limit(n.Degree(), n.Len(h)), func() bool { return n.Insert(h, slot+i, api.Entry{Key: k}) })
	}
}

// wantOut extracts those slots, and no other one.
func wantOut(t *testing.T, n *Nest, h int, want ...int) {
	t.Helper()
	for _, slot := range want {
		if got, ok := n.Min(h); !ok || got != slot {
			t.Fatalf("Min(%d) = %d, %v, not %d", h, got, ok, slot)
		}
		within(t, n, limit(n.Degree(), n.Len(h)), func() bool {
			got, ok := n.Extract(h)
			return ok && got == slot
		})
		if _, in := n.Home(slot); in {
			t.Fatalf("%d is in a heap, though it came out", slot)
		}
	}
	if got, ok := n.Extract(h); ok || got != 0 {
		t.Fatalf("Extract(%d) = %d, %v, though nothing is left", h, got, ok)
	}
	if got, ok := n.Min(h); ok || got != 0 {
		t.Fatalf("Min(%d) = %d, %v, though nothing is left", h, got, ok)
	}
}

// bySlots is the slots as they should come out, of which slot i has the key keys[i].
func bySlots(keys []int64) []int {
	all := make([]int, len(keys))
	for i := range all {
		all[i] = i
	}
	slices.SortStableFunc(all, func(a, b int) int {
		switch {
		case keys[a] < keys[b]:
			return -1
		case keys[a] > keys[b]:
			return 1
		}
		return 0
	})
	return all
}

// mixed is keys below 100, some of them alike.
func mixed(count int) []int64 {
	keys := make([]int64, count)
	for i := range keys {
		keys[i] = int64(i * 7919 % 1009 % 100)
	}
	return keys
}

// TestNew: a capacity that can't be is told ahead of a degree that can't be.
func TestNew(t *testing.T) {
	wrongDegrees := []int{-1 << 63, -1<<63 + 2, -65536, -16, -2, -1, 0, 1, 17, 18, 256 + 2, 1<<16 + 2, 1<<32 + 2, 1<<63 - 1}
	wrongCapacities := []int{-1 << 63, -65536, -1, 65537, 1 << 32, 1<<63 - 1}
	for _, capacity := range wrongCapacities {
		for d := -1; d <= 18; d++ {
			if n, e := New(capacity, d); n != nil || e != api.ErrRange {
				t.Errorf("New(%d, %d) = %v, %d", capacity, d, n, e)
			}
		}
		for _, d := range wrongDegrees {
			if n, e := New(capacity, d); n != nil || e != api.ErrRange {
				t.Errorf("New(%d, %d) = %v, %d", capacity, d, n, e)
			}
		}
	}
	for _, capacity := range []int{0, 1, 65536} {
		for _, d := range wrongDegrees {
			if n, e := New(capacity, d); n != nil || e != api.ErrDegree {
				t.Errorf("New(%d, %d) = %v, %d", capacity, d, n, e)
			}
		}
		for d := 2; d <= 16; d++ {
			n := fresh(t, capacity, d, 0)
			if n.Has(1) || n.Len(1) != 0 || n.Depth(1) != 0 {
				t.Errorf("New(%d, %d) has a heap", capacity, d)
			}
		}
	}
}

// TestExample is the chapter's.
func TestExample(t *testing.T) {
	n := fresh(t, 7, 3, 1)
	fill(t, n, 1, 0, 4, 1, 6, 0, 2, 5, 3)
	if got := n.Depth(1); got != 2 {
		t.Errorf("Depth(1) = %d", got)
	}
	wantOut(t, n, 1, 3, 1, 4, 6, 0, 5, 2)
}

// levels is how many places are above the last one of so many: each level but the last one is full.
func levels(d, count int) int {
	depth := 0
	for width, reach := 1, 1; reach < count; depth++ {
		width *= d
		reach += width
	}
	return depth
}

// wantDepth holds the depth of a heap, which takes no steps.
func wantDepth(t *testing.T, n *Nest, h, count int) {
	t.Helper()
	within(t, n, 0, func() bool { return n.Len(h) == count })
	within(t, n, 0, func() bool { return n.Depth(h) == levels(n.Degree(), count) })
}

// TestDepth: of every size there can be, as slots come in and go out.
func TestDepth(t *testing.T) {
	const most = 65536
	forDegrees(t, func(t *testing.T, d int) {
		n := fresh(t, most, d, 2)
		for slot := range most {
			wantDepth(t, n, 1, slot)
			fill(t, n, 1, slot, int64(slot))
		}
		wantDepth(t, n, 1, most)
		wantDepth(t, n, 2, 0)
		for slot := most - 1; slot >= 0; slot-- {
			within(t, n, limit(d, slot+1), func() bool { return n.Delete(slot) })
			wantDepth(t, n, 1, slot)
		}
	})
}

// TestDepthOfNone: heaps that aren't there, or aren't there any more, and what is melded and extracted.
func TestDepthOfNone(t *testing.T) {
	forDegrees(t, func(t *testing.T, d int) {
		n := fresh(t, 90, d, 3)
		fill(t, n, 1, 0, mixed(40)...)
		fill(t, n, 2, 40, mixed(50)...)
		for _, h := range []int{-1 << 63, -65535, -2, -1, 0, 4, 65536, 65537, 1<<32 + 1, 1<<63 - 1} {
			if got := n.Depth(h); got != 0 {
				t.Errorf("Depth(%d) = %d", h, got)
			}
		}
		wantDepth(t, n, 3, 0)
		within(t, n, 41*limit(d, 90), func() bool { return n.Meld(1, 2) })
		wantDepth(t, n, 1, 90)
		wantDepth(t, n, 2, 0)
		for left := 89; left >= 0; left-- {
			if _, ok := n.Extract(1); !ok {
				t.Fatalf("nothing came out, with %d left", left)
			}
			wantDepth(t, n, 1, left)
		}
	})
}

// TestOut: of sizes about those whose levels are full, all comes out in order.
func TestOut(t *testing.T) {
	forDegrees(t, func(t *testing.T, d int) {
		for _, full := range []int{0, 1, 1 + d, 1 + d + d*d, 1 + d + d*d + d*d*d} {
			for count := max(full-2, 0); count <= full+2; count++ {
				rising, falling := make([]int64, count), make([]int64, count)
				for i := range count {
					rising[i], falling[i] = int64(i), int64(-i)
				}
				for _, keys := range [][]int64{rising, falling, mixed(count), make([]int64, count)} {
					n := fresh(t, count, d, 1)
					fill(t, n, 1, 0, keys...)
					wantOut(t, n, 1, bySlots(keys)...)
				}
			}
		}
	})
}

// TestTies: the lower slot comes out first, in whichever order the same entries came in.
func TestTies(t *testing.T) {
	forDegrees(t, func(t *testing.T, d int) {
		n := fresh(t, 50, d, 2)
		for i := range 50 {
			slot := i * 17 % 50
			fill(t, n, 1+slot%2, slot, 6)
		}
		if !n.Meld(2, 1) {
			t.Fatal("not melded")
		}
		wantOut(t, n, 2, bySlots(make([]int64, 50))...)
	})
}

// TestDecrease: a lower entry or the same one, no greater one, and none of a slot that is in no heap.
func TestDecrease(t *testing.T) {
	forDegrees(t, func(t *testing.T, d int) {
		n := fresh(t, 6, d, 1)
		fill(t, n, 1, 0, 1, 2, 3, 4, 5)
		for slot := range 5 {
			same := api.Entry{Key: int64(slot + 1)}
			if n.Decrease(slot, api.Entry{Key: same.Key, Seq: 1}) || !n.Decrease(slot, same) {
				t.Errorf("Decrease of %d", slot)
			}
			if e, ok := n.Entry(slot); !ok || e != same {
				t.Errorf("Entry(%d) = %v, %v", slot, e, ok)
			}
		}
		for _, slot := range []int{-1 << 63, -1, 5, 6, 1<<63 - 1} {
			if n.Decrease(slot, api.Entry{Key: -1 << 63}) {
				t.Errorf("Decrease(%d) = true", slot)
			}
		}
		if !n.Decrease(4, api.Entry{}) || !n.Decrease(2, api.Entry{Key: -1}) {
			t.Error("not decreased")
		}
		wantOut(t, n, 1, 2, 4, 0, 1, 3)
	})
}

// TestDecreaseAll: each slot of a heap comes to be the first one, wherever it stands, within the bound.
func TestDecreaseAll(t *testing.T) {
	forDegrees(t, func(t *testing.T, d int) {
		const count = 700
		n := fresh(t, count, d, 1)
		keys := mixed(count)
		fill(t, n, 1, 0, keys...)
		for i := range count {
			slot := i * 391 % count
			keys[slot] = int64(-1 - i)
			within(t, n, limit(d, count), func() bool { return n.Decrease(slot, api.Entry{Key: keys[slot]}) })
			if got, ok := n.Min(1); !ok || got != slot {
				t.Fatalf("Min(1) = %d, %v, not %d", got, ok, slot)
			}
		}
		wantOut(t, n, 1, bySlots(keys)...)
	})
}

// TestDelete deletes a slot whose place comes to one that belongs above it, and to one that belongs there.
func TestDelete(t *testing.T) {
	forDegrees(t, func(t *testing.T, d int) {
		for _, last := range []int64{2, 12} {
			// Each of these stays where it comes in. The children of the second one are the greatest ones; the last one of all
			// is the third one's child, and comes to the place of one of those.
			keys := make([]int64, 2*d+2)
			for i := range keys {
				switch {
				case i == 1:
					keys[i] = 10
				case i > d:
					keys[i] = 13
				case i > 1:
					keys[i] = 1
				}
			}
			keys[2*d+1] = last
			n := fresh(t, len(keys), d, 1)
			fill(t, n, 1, 0, keys...)
			gone := d + 1
			within(t, n, limit(d, len(keys)), func() bool { return n.Delete(gone) })
			if n.Delete(gone) || n.Delete(-1) || n.Delete(len(keys)) {
				t.Fatal("deleted, though it is in no heap")
			}
			if _, ok := n.Home(gone); ok || n.Len(1) != len(keys)-1 {
				t.Fatalf("%d is in a heap yet", gone)
			}
			rest := slices.DeleteFunc(bySlots(keys), func(slot int) bool { return slot == gone })
			wantOut(t, n, 1, rest...)
		}
	})
}

// TestDeleteEach deletes one slot, at each place of a heap, and takes the rest out.
func TestDeleteEach(t *testing.T) {
	forDegrees(t, func(t *testing.T, d int) {
		count := min(1+d+d*d, 60)
		keys := mixed(count)
		for gone := range count {
			n := fresh(t, count, d, 1)
			fill(t, n, 1, 0, keys...)
			within(t, n, limit(d, count), func() bool { return n.Delete(gone) })
			rest := slices.DeleteFunc(bySlots(keys), func(slot int) bool { return slot == gone })
			wantOut(t, n, 1, rest...)
		}
	})
}

// TestMeldMovesTheLesser: a Meld takes few steps, whichever of both heaps is the lesser one, and however they are ordered.
func TestMeldMovesTheLesser(t *testing.T) {
	forDegrees(t, func(t *testing.T, d int) {
		for _, turned := range []bool{false, true} {
			n := fresh(t, 1002, d, 2)
			for i := range 1000 {
				fill(t, n, 1, i, int64(2000-i))
			}
			fill(t, n, 2, 1000, 5, 3000)
			a, b := 1, 2
			if turned {
				a, b = 2, 1
			}
			within(t, n, 3*limit(d, 1002), func() bool { return n.Meld(a, b) })
			if n.Has(b) || n.Len(b) != 0 || n.Len(a) != 1002 || n.Meld(a, b) || n.Meld(b, a) || n.Meld(a, a) {
				t.Fatalf("Meld(%d, %d)", a, b)
			}
			if slot, ok := n.Min(a); !ok || slot != 1000 {
				t.Errorf("Min(%d) = %d, %v", a, slot, ok)
			}
			if _, ok := n.Min(b); ok {
				t.Errorf("Min(%d) of none", b)
			}
		}
	})
}

// TestNothingIsKept: of a heap with nothing in it no row is kept.
func TestNothingIsKept(t *testing.T) {
	n := fresh(t, 4, 3, 4)
	fill(t, n, 1, 0, 1, 2)
	fill(t, n, 2, 2, 3)
	if !n.Meld(3, 4) || !n.Meld(3, 1) || !n.Meld(2, 3) || len(n.rows) != 1 {
		t.Fatalf("%d rows of one heap", len(n.rows))
	}
	if !n.Delete(1) {
		t.Fatal("not deleted")
	}
	wantOut(t, n, 2, 0, 2)
	if len(n.rows) != 0 {
		t.Errorf("%d rows, though nothing is in a heap", len(n.rows))
	}
}

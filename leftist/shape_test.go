package leftist

import (
	"testing"

	"haycock/api"
	"haycock/entry"
	"haycock/gauge"
)

// aheadOf is which of two slots is ahead, without a step.
func aheadOf(n *Nest, a, b int) bool {
	x, _ := n.Entry(a)
	y, _ := n.Entry(b)
	if x == y {
		return a < b
	}
	return entry.Less(x, y)
}

// wantShape holds all that is promised of the trees and of what is told of them, in a nest of which so many heaps were made.
// It takes no steps.
func wantShape(t *testing.T, n *Nest, heaps int) {
	t.Helper()
	within(t, n, 0, func() bool {
		for h := range heaps + 2 {
			wantSpine(t, n, h)
			wantTree(t, n, h)
		}
		for slot := range n.Capacity() {
			if _, in := n.Home(slot); !in {
				wantLoose(t, n, slot)
			}
		}
		return true
	})
}

// wantSpine holds what P10.2 promises of a heap, by the listed calls alone.
func wantSpine(t *testing.T, n *Nest, h int) {
	t.Helper()
	spine, in := n.Spine(h), n.Len(h)
	top, ok := n.Min(h)
	if ok != (in > 0) || ok != (len(spine) > 0) || len(spine) > gauge.Bits(in) {
		t.Fatalf("heap %d, of %d slots: %v, %v", h, in, spine, ok)
	}
	if ok && spine[0] != top {
		t.Fatalf("Spine(%d) begins with %d, not with %d", h, spine[0], top)
	}
	for i, slot := range spine {
		if home, _ := n.Home(slot); home != h {
			t.Fatalf("%d of Spine(%d) is in %d", slot, h, home)
		}
		if got := n.Rank(slot); got != len(spine)-i {
			t.Fatalf("Rank(%d) = %d at place %d of %v", slot, got, i, spine)
		}
		if i > 0 && !aheadOf(n, spine[i-1], slot) {
			t.Fatalf("%d isn't ahead of %d", spine[i-1], slot)
		}
	}
}

// wantTree holds a heap's tree: that all slots of the heap are in it, and where each of them is.
func wantTree(t *testing.T, n *Nest, h int) {
	t.Helper()
	top, ok := n.Min(h)
	if !ok {
		return
	}
	if p, below := n.forest.trees.Up(top); below {
		t.Fatalf("%d, topmost in %d, is below %d", top, h, p)
	}
	all := n.forest.trees.All(top)
	if len(all) != n.Len(h) {
		t.Fatalf("the tree of %d has %d slots, not %d", h, len(all), n.Len(h))
	}
	for _, slot := range all {
		home, _ := n.Home(slot)
		left, right := wantBelow(t, n, slot, n.forest.trees.Left), wantBelow(t, n, slot, n.forest.trees.Right)
		if home != h || right > left || n.Rank(slot) != 1+right {
			t.Fatalf("%d in %d: ranks %d, %d, %d", slot, home, left, n.Rank(slot), right)
		}
	}
}

// wantBelow asks that a child isn't ahead, and tells its rank.
func wantBelow(t *testing.T, n *Nest, slot int, child func(x int) (int, bool)) int {
	t.Helper()
	c, ok := child(slot)
	if !ok {
		return 0
	}
	if aheadOf(n, c, slot) {
		t.Fatalf("%d is below %d, and ahead of it", c, slot)
	}
	if n.Rank(c) < 1 {
		t.Fatalf("Rank(%d) = %d", c, n.Rank(c))
	}
	return n.Rank(c)
}

// wantLoose asks of a slot that is in no heap that it is in no tree, either.
func wantLoose(t *testing.T, n *Nest, slot int) {
	t.Helper()
	_, below := n.forest.trees.Up(slot)
	_, left := n.forest.trees.Left(slot)
	_, right := n.forest.trees.Right(slot)
	if below || left || right || n.Rank(slot) != 0 {
		t.Fatalf("%d is in no heap, but in a tree: %v, %v, %v, %d", slot, below, left, right, n.Rank(slot))
	}
}

// roller tells numbers below n that hang on the seed alone.
func roller(seed uint64) func(n int) int {
	mix := seed*2654435761 + 12345
	return func(n int) int {
		mix = mix*6364136223846793005 + 1442695040888963407
		return int(mix>>33) % n
	}
}

// TestShapeOfMixedWays holds the shape behind each of many calls, which hang on a number that is mixed again and again.
func TestShapeOfMixedWays(t *testing.T) {
	for seed := range uint64(60) {
		roll := roller(seed)
		capacity, heaps := 1+roll(60), 1+roll(5)
		n := fresh(t, capacity, heaps)
		for range 400 {
			h, slot, e := roll(heaps+2), roll(capacity+2)-1, api.Entry{Key: int64(roll(40)), Seq: uint64(roll(2))}
			home, _ := n.Home(slot)
			most := limit(max(n.Len(h), n.Len(home)))
			other := roll(heaps + 2)
			within(t, n, max(most, limit(n.Len(h)+n.Len(other))), func() bool {
				switch roll(12) {
				case 0:
					n.Extract(h)
				case 1:
					n.Delete(slot)
				case 2, 3, 4:
					n.Decrease(slot, e)
				case 5:
					n.Meld(h, other)
				case 6:
					if n.Make() == heaps+1 {
						heaps++
					}
				default:
					n.Insert(h, slot, e)
				}
				return true
			})
			wantShape(t, n, heaps)
		}
	}
}

// TestShapeOfFull deletes and decreases in as flat a tree as there can be, where a rank that changes changes those above it.
func TestShapeOfFull(t *testing.T) {
	const count = 1<<8 - 1
	for _, first := range []int{0, 1} {
		for step := 1; step < 8; step++ {
			n := fresh(t, count, 1)
			fill(t, n, 1, 0, rising(count)...)
			if got := n.Rank(0); got != 8 {
				t.Fatalf("Rank(0) = %d", got)
			}
			for i, slot := 0, count-1-first; slot > 0; i, slot = i+1, slot-step {
				if i%2 == first {
					remove(t, n, slot)
				} else {
					decrease(t, n, slot, int64(-i))
				}
				wantShape(t, n, 1)
			}
		}
	}
}

// TestRankRises: a slot of a low rank, above others of greater ranks, is deleted: ranks rise, of what is above it and further up.
func TestRankRises(t *testing.T) {
	n := fresh(t, 32, 3)
	// Each of these heaps is a slot whose only child is topmost in a full tree.
	heaps := []struct{ top, below int }{{0, 7}, {8, 7}, {16, 15}}
	for i, h := range heaps {
		k := int64(-100 * i)
		for slot := h.top + 1; slot <= h.top+h.below; slot++ {
			insert(t, n, i+1, slot, k+int64(slot))
		}
		insert(t, n, i+1, h.top, k+int64(h.top))
	}
	meld(t, n, 2, 1)
	meld(t, n, 3, 2)
	wantRanks := func(want ...int) {
		t.Helper()
		for i, h := range heaps {
			if got := n.Rank(h.top); got != want[i] {
				t.Fatalf("Rank(%d) = %d, not %d", h.top, got, want[i])
			}
		}
		wantShape(t, n, 3)
	}
	wantRanks(1, 2, 3)
	remove(t, n, 0)
	wantRanks(0, 4, 5)
}

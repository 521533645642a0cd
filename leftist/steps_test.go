package leftist

import (
	"slices"
	"testing"

	"haycock/api"
)

// most is the greatest capacity.
const most = 65536

// TestSteps: one is counted for each question which of two slots is ahead, and none where there is nothing to ask.
func TestSteps(t *testing.T) {
	n := fresh(t, 4, 3)
	wantSteps := func(what string, want int) {
		t.Helper()
		if got := n.Steps(); got != want {
			t.Fatalf("%s: %d steps, not %d", what, got, want)
		}
	}
	insert(t, n, 1, 0, 2)
	wantSteps("one slot", 0)
	insert(t, n, 1, 1, 1)
	wantSteps("two slots", 1)
	insert(t, n, 2, 2, 5)
	meld(t, n, 3, 2)
	wantSteps("a Meld into none", 1)
	meld(t, n, 1, 3)
	wantSteps("a Meld of two slots and one", 2)
	n.Min(1)
	n.Spine(1)
	n.Rank(1)
	wantSteps("Min, Spine and Rank", 2)
	remove(t, n, 0)
	remove(t, n, 2)
	wantSteps("what had nothing below it", 2)
	decrease(t, n, 1, 0)
	wantSteps("what had nothing above it", 2)
}

// TestStepsOfFalse: a call that answers false takes no more steps than it may, and changes nothing.
func TestStepsOfFalse(t *testing.T) {
	n := fresh(t, 302, 4)
	fill(t, n, 1, 0, mixed(200)...)
	fill(t, n, 2, 200, mixed(100)...)
	meld(t, n, 3, 4)
	ranks, first, second := make([]int, 302), n.Spine(1), n.Spine(2)
	for slot := range ranks {
		ranks[slot] = n.Rank(slot)
	}
	wantFalse := func(what string, most int, call func() bool) {
		t.Helper()
		within(t, n, most, func() bool {
			if call() {
				t.Errorf("%s = true", what)
			}
			return true
		})
	}
	for _, slot := range append([]int{300, 301, 302}, farNumbers...) {
		wantFalse("Delete", limit(0), func() bool { return n.Delete(slot) })
		wantFalse("Decrease", limit(0), func() bool { return n.Decrease(slot, api.Entry{Key: -9}) })
	}
	for _, h := range append([]int{0, 4, 5}, farNumbers...) {
		wantFalse("Min", limit(0), func() bool { _, ok := n.Min(h); return ok })
		wantFalse("Extract", limit(0), func() bool { _, ok := n.Extract(h); return ok })
		wantFalse("Insert", limit(0), func() bool { return n.Insert(h, 300, api.Entry{}) })
		wantFalse("Meld", limit(200), func() bool { return n.Meld(1, h) })
		wantFalse("Meld", limit(100), func() bool { return n.Meld(h, 2) })
		wantFalse("Meld", limit(0), func() bool { return n.Meld(h, h) })
	}
	for _, slot := range append([]int{0, 199, 200, 299, 302}, farNumbers...) {
		wantFalse("Insert", limit(200), func() bool { return n.Insert(1, slot, api.Entry{Key: -9}) })
	}
	wantFalse("Extract", limit(0), func() bool { _, ok := n.Extract(3); return ok })
	wantFalse("Decrease", limit(200), func() bool { return n.Decrease(5, api.Entry{Key: 100}) })
	wantFalse("Meld", limit(400), func() bool { return n.Meld(1, 1) })
	for slot, want := range ranks {
		if got := n.Rank(slot); got != want {
			t.Fatalf("Rank(%d) = %d, not %d", slot, got, want)
		}
	}
	if !slices.Equal(n.Spine(1), first) || !slices.Equal(n.Spine(2), second) || n.Len(1) != 200 || n.Len(2) != 100 || n.Make() != 5 {
		t.Error("something was changed")
	}
	wantShape(t, n, 5)
}

// TestDeep: a way to the left as long as it can be. Its slots come off and out from its end, from its top and between.
func TestDeep(t *testing.T) {
	keys := falling(most)
	deep := func() *Nest {
		n := fresh(t, most, 1)
		fill(t, n, 1, 0, keys...)
		if n.Rank(0) != 1 || n.Rank(most-1) != 1 || !slices.Equal(n.Spine(1), []int{most - 1}) {
			t.Fatalf("ranks %d, %d", n.Rank(0), n.Rank(most-1))
		}
		return n
	}
	n := deep()
	for slot := range most {
		decrease(t, n, slot, int64(-2*most-slot))
	}
	wantShape(t, n, 1)
	n = deep()
	for slot := range most / 2 {
		remove(t, n, slot)
	}
	for slot := most / 2; slot < most; slot += 2 {
		remove(t, n, slot)
	}
	wantShape(t, n, 1)
	left := n.Len(1)
	for i := range left {
		within(t, n, limit(left-i), func() bool {
			slot, ok := n.Extract(1)
			return ok && slot == most-1-2*i
		})
	}
	n = deep()
	for i := range most / 3 {
		slot := i * 40503 % most
		decrease(t, n, slot, int64(-slot-most/2))
	}
	wantShape(t, n, 1)
}

// TestFlat: as flat a tree as can be; its way to the right is as long as it may be.
func TestFlat(t *testing.T) {
	n := fresh(t, most, 2)
	for slot, k := range rising(most - 1) {
		insert(t, n, 1, slot, k)
		if n.Spine(1)[0] != 0 || n.Rank(0) > 16 {
			t.Fatalf("%v with %d slots", n.Spine(1), slot+1)
		}
	}
	if got := n.Spine(1); len(got) != 16 || n.Rank(0) != 16 {
		t.Fatalf("Spine(1) = %v", got)
	}
	wantShape(t, n, 2)
	insert(t, n, 2, most-1, 7)
	meld(t, n, 2, 1)
	wantShape(t, n, 2)
	for i := range most / 2 {
		remove(t, n, i*40503%most)
	}
	wantShape(t, n, 2)
}

// TestMeldOfLikes melds heaps of one size each, by twos: ways to the right that are both as long as they may be.
func TestMeldOfLikes(t *testing.T) {
	const each = 7
	heaps := most / 8
	n := fresh(t, most, heaps)
	for h := range heaps {
		for i := range each {
			// All heaps share one range of keys, so that both ways to the right are gone through to their ends.
			insert(t, n, h+1, h*each+i, int64(i*heaps+h))
		}
	}
	for apart := 1; apart < heaps; apart *= 2 {
		for h := 1; h <= heaps; h += 2 * apart {
			meld(t, n, h, h+apart)
		}
	}
	wantShape(t, n, heaps)
	for i := range each * heaps {
		slot := i%heaps*each + i/heaps
		within(t, n, limit(n.Len(1)), func() bool {
			got, ok := n.Extract(1)
			return ok && got == slot
		})
	}
}

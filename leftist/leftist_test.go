package leftist

import (
	"slices"
	"testing"

	"haycock/api"
	"haycock/gauge"
)

// config is that of these heaps.
var config = api.Config{Kind: api.KindLeftist}

// farNumbers are of no slot and of no heap; some of them would be of one in fewer bits.
var farNumbers = []int{
	-1 << 63, -1<<63 + 1, -1 << 32, -65536, -65535, -2, -1, 65537, 65538, 1<<31 - 1, 1 << 32, 1<<32 + 1, 1<<63 - 1,
}

// fresh is a new nest with so many heaps.
func fresh(t *testing.T, capacity, heaps int) *Nest {
	t.Helper()
	n, e := New(capacity)
	if e != api.OK || n == nil || n.Capacity() != capacity || n.Steps() != 0 {
		t.Fatalf("New(%d) = %v, %d", capacity, n, e)
	}
	for i := range heaps {
		if h := n.Make(); h != i+1 {
			t.Fatalf("Make() = %d, not %d", h, i+1)
		}
	}
	return n
}

// limit is how many steps a call may take upon so many slots.
func limit(in int) int {
	return gauge.Limit(config, in+1)
}

// within does something, and asks for no more steps than that.
func within(t *testing.T, n *Nest, most int, do func() bool) {
	t.Helper()
	steps := n.Steps()
	if !do() {
		t.Fatal("it answered false")
	}
	if took := n.Steps() - steps; took < 0 || took > most {
		t.Fatalf("it took %d steps, not at most %d", took, most)
	}
}

// insert, decrease, remove and meld ask for true, and for no more steps than the call may take.

func insert(t *testing.T, n *Nest, h, slot int, k int64) {
	t.Helper()
	within(t, n, limit(n.Len(h)), func() bool { return n.Insert(h, slot, api.Entry{Key: k}) })
}

func decrease(t *testing.T, n *Nest, slot int, k int64) {
	t.Helper()
	h, _ := n.Home(slot)
	within(t, n, limit(n.Len(h)), func() bool { return n.Decrease(slot, api.Entry{Key: k}) })
}

func remove(t *testing.T, n *Nest, slot int) {
	t.Helper()
	h, _ := n.Home(slot)
	within(t, n, limit(n.Len(h)), func() bool { return n.Delete(slot) })
}

func meld(t *testing.T, n *Nest, a, b int) {
	t.Helper()
	within(t, n, limit(n.Len(a)+n.Len(b)), func() bool { return n.Meld(a, b) })
}

// fill puts keys into a heap, from a slot on.
func fill(t *testing.T, n *Nest, h, slot int, keys ...int64) {
	t.Helper()
	for i, k := range keys {
		insert(t, n, h, slot+i, k)
	}
}

// wantOut extracts those slots, and no other one.
func wantOut(t *testing.T, n *Nest, h int, want ...int) {
	t.Helper()
	for _, slot := range want {
		if got, ok := n.Min(h); !ok || got != slot {
			t.Fatalf("Min(%d) = %d, %v, not %d", h, got, ok, slot)
		}
		within(t, n, limit(n.Len(h)), func() bool {
			got, ok := n.Extract(h)
			return ok && got == slot
		})
		if _, in := n.Home(slot); in || n.Rank(slot) != 0 {
			t.Fatalf("%d is in a heap, though it came out", slot)
		}
	}
	if got, ok := n.Extract(h); ok || got != 0 {
		t.Fatalf("Extract(%d) = %d, %v, though nothing is left", h, got, ok)
	}
	if got, ok := n.Min(h); ok || got != 0 || len(n.Spine(h)) != 0 {
		t.Fatalf("Min(%d) = %d, %v, though nothing is left", h, got, ok)
	}
}

// byKeys is the slots as they should come out, of which slot i has the key keys[i].
func byKeys(keys []int64) []int {
	all := make([]int, len(keys))
	for i := range all {
		all[i] = i
	}
	slices.SortStableFunc(all, func(a, b int) int {
		switch {
		case keys[a] < keys[b]:
			return -1
		case keys[a] > keys[b]:
			return 1
		}
		return 0
	})
	return all
}

// mixed is keys below 100, some of them alike.
func mixed(count int) []int64 {
	keys := make([]int64, count)
	for i := range keys {
		keys[i] = int64(i * 7919 % 1009 % 100)
	}
	return keys
}

// falling is keys each of which is less than the one ahead: their tree is a way to the left.
func falling(count int) []int64 {
	keys := make([]int64, count)
	for i := range keys {
		keys[i] = int64(-i)
	}
	return keys
}

// rising is keys each of which is greater than the one ahead: their tree is as flat as it can be.
func rising(count int) []int64 {
	keys := make([]int64, count)
	for i := range keys {
		keys[i] = int64(i)
	}
	return keys
}

// TestNew: all edges of what a capacity may be.
func TestNew(t *testing.T) {
	for _, capacity := range farNumbers {
		if n, e := New(capacity); n != nil || e != api.ErrRange {
			t.Errorf("New(%d) = %v, %d", capacity, n, e)
		}
	}
	for _, capacity := range []int{0, 1, 2, 65535, 65536} {
		n := fresh(t, capacity, 0)
		for _, x := range []int{0, 1, capacity - 1, capacity} {
			if n.Has(x) || n.Len(x) != 0 || len(n.Spine(x)) != 0 || n.Rank(x) != 0 {
				t.Errorf("New(%d) has %d", capacity, x)
			}
		}
	}
}

// TestExample is the chapter's.
func TestExample(t *testing.T) {
	n := fresh(t, 3, 1)
	fill(t, n, 1, 0, 1, 2, 3)
	for slot, want := range []int{2, 1, 1} {
		if got := n.Rank(slot); got != want {
			t.Errorf("Rank(%d) = %d, not %d", slot, got, want)
		}
	}
	if got := n.Spine(1); len(got) != 2 || got[0] != 0 || got[1] != 1 && got[1] != 2 {
		t.Errorf("Spine(1) = %v", got)
	}
	wantOut(t, n, 1, 0, 1, 2)
}

// TestOfNone: neither slots that are in no heap have a rank, nor heaps without slots, or that aren't there, a spine.
func TestOfNone(t *testing.T) {
	n := fresh(t, 10, 4)
	fill(t, n, 1, 0, 3, 1, 2)
	fill(t, n, 2, 3, 6, 5, 4)
	fill(t, n, 3, 6, 9)
	meld(t, n, 1, 2)
	remove(t, n, 6)
	remove(t, n, 4)
	if slot, ok := n.Extract(1); !ok || slot != 1 {
		t.Fatalf("Extract(1) = %d, %v", slot, ok)
	}
	within(t, n, 0, func() bool {
		for _, slot := range append([]int{1, 4, 6, 7, 8, 9, 10, 11}, farNumbers...) {
			if got := n.Rank(slot); got != 0 {
				t.Errorf("Rank(%d) = %d", slot, got)
			}
		}
		for _, slot := range []int{0, 2, 3, 5} {
			if got := n.Rank(slot); got < 1 {
				t.Errorf("Rank(%d) = %d", slot, got)
			}
		}
		for _, h := range append([]int{0, 2, 3, 4, 5}, farNumbers...) {
			if got := n.Spine(h); len(got) != 0 {
				t.Errorf("Spine(%d) = %v", h, got)
			}
		}
		return len(n.Spine(1)) > 0
	})
	wantShape(t, n, 4)
}

// TestSpineIsNew: what was answered may be written over and added to, and no later call can tell.
func TestSpineIsNew(t *testing.T) {
	n := fresh(t, 64, 2)
	fill(t, n, 1, 0, rising(63)...)
	first, second := n.Spine(1), n.Spine(1)
	want := slices.Clone(first)
	if len(want) != 6 {
		t.Fatalf("Spine(1) = %v", want)
	}
	for i := range first {
		first[i] = -7
	}
	for len(first) < cap(first) {
		first = append(first, -7)
	}
	if !slices.Equal(second, want) || !slices.Equal(n.Spine(1), want) {
		t.Errorf("Spine(1) = %v, %v, not %v", second, n.Spine(1), want)
	}
	wantShape(t, n, 2)
	remove(t, n, want[0])
	if !slices.Equal(second, want) {
		t.Errorf("what was answered is %v, not %v", second, want)
	}
}

// TestOut: of sizes about those of full trees, all comes out in order.
func TestOut(t *testing.T) {
	for _, count := range []int{0, 1, 2, 3, 4, 6, 7, 8, 14, 15, 16, 17, 63, 64, 500} {
		for _, keys := range [][]int64{rising(count), falling(count), mixed(count), make([]int64, count)} {
			n := fresh(t, count, 1)
			for slot, k := range keys {
				insert(t, n, 1, slot, k)
				wantShape(t, n, 1)
			}
			wantOut(t, n, 1, byKeys(keys)...)
		}
	}
}

// TestTies: the lower slot comes out first, in whichever order the same entries came in.
func TestTies(t *testing.T) {
	n := fresh(t, 50, 2)
	for i := range 50 {
		slot := i * 17 % 50
		insert(t, n, 1+slot%2, slot, 6)
	}
	meld(t, n, 2, 1)
	wantShape(t, n, 2)
	wantOut(t, n, 2, byKeys(make([]int64, 50))...)
}

// TestDecrease: a lower entry or the same one, no greater one, and none of a slot that is in no heap.
func TestDecrease(t *testing.T) {
	n := fresh(t, 6, 1)
	fill(t, n, 1, 0, 1, 2, 3, 4, 5)
	for slot := range 5 {
		same := api.Entry{Key: int64(slot + 1)}
		if n.Decrease(slot, api.Entry{Key: same.Key, Seq: 1}) || !n.Decrease(slot, same) {
			t.Errorf("Decrease of %d", slot)
		}
		if e, ok := n.Entry(slot); !ok || e != same {
			t.Errorf("Entry(%d) = %v, %v", slot, e, ok)
		}
	}
	for _, slot := range append([]int{5, 6}, farNumbers...) {
		if n.Decrease(slot, api.Entry{Key: -1 << 63}) {
			t.Errorf("Decrease(%d) = true", slot)
		}
	}
	decrease(t, n, 4, 0)
	decrease(t, n, 2, -1)
	wantShape(t, n, 1)
	wantOut(t, n, 1, 2, 4, 0, 1, 3)
}

// TestDecreaseBySlot: a slot whose entry comes to be that of what is above it is ahead of it, if it is the lower one.
func TestDecreaseBySlot(t *testing.T) {
	n := fresh(t, 4, 1)
	insert(t, n, 1, 2, 5)
	insert(t, n, 1, 1, 6)
	insert(t, n, 1, 3, 7)
	decrease(t, n, 3, 5)
	if top, _ := n.Min(1); top != 2 {
		t.Errorf("Min(1) = %d", top)
	}
	wantShape(t, n, 1)
	decrease(t, n, 1, 5)
	if top, _ := n.Min(1); top != 1 {
		t.Errorf("Min(1) = %d", top)
	}
	wantShape(t, n, 1)
	wantOut(t, n, 1, 1, 2, 3)
}

// forShapes runs a test on heaps of several shapes; slot i has the key keys[i], from 0 on as many as there are.
func forShapes(t *testing.T, count int, test func(keys []int64)) {
	t.Helper()
	swung := make([]int64, count)
	for i := range swung {
		swung[i] = int64(i * (1 - 2*(i%2)))
	}
	for _, keys := range [][]int64{rising(count), falling(count), mixed(count), make([]int64, count), swung} {
		test(keys)
	}
}

// TestDecreaseEach decreases one slot, at each place of a heap, to be the first one, and to be about the middle.
func TestDecreaseEach(t *testing.T) {
	const count = 70
	forShapes(t, count, func(keys []int64) {
		for slot := range count {
			for _, to := range []int64{-1000, keys[slot] - 3, (keys[slot] - 70) / 2} {
				n := fresh(t, count, 1)
				fill(t, n, 1, 0, keys...)
				now := slices.Clone(keys)
				now[slot] = min(to, keys[slot])
				decrease(t, n, slot, now[slot])
				wantShape(t, n, 1)
				wantOut(t, n, 1, byKeys(now)...)
			}
		}
	})
}

// TestDeleteEach deletes one slot, at each place of a heap, and takes the rest out.
func TestDeleteEach(t *testing.T) {
	const count = 70
	forShapes(t, count, func(keys []int64) {
		for gone := range count {
			n := fresh(t, count, 1)
			fill(t, n, 1, 0, keys...)
			remove(t, n, gone)
			if n.Delete(gone) || n.Rank(gone) != 0 || n.Len(1) != count-1 {
				t.Fatalf("%d is in a heap yet", gone)
			}
			wantShape(t, n, 1)
			rest := slices.DeleteFunc(byKeys(keys), func(slot int) bool { return slot == gone })
			wantOut(t, n, 1, rest...)
		}
	})
}

// TestMeld: heaps of unlike sizes and shapes, whichever is the first one, and heaps without slots.
func TestMeld(t *testing.T) {
	for _, a := range []int{0, 1, 2, 7, 31, 100} {
		for _, b := range []int{0, 1, 3, 15, 64, 100} {
			forShapes(t, a+b, func(keys []int64) {
				n := fresh(t, a+b, 2)
				fill(t, n, 1, 0, keys[:a]...)
				fill(t, n, 2, a, keys[a:]...)
				meld(t, n, 2, 1)
				if n.Has(1) || n.Len(1) != 0 || n.Len(2) != a+b || n.Meld(1, 2) || n.Meld(2, 1) || n.Meld(2, 2) {
					t.Fatalf("Meld of %d and %d slots", b, a)
				}
				wantShape(t, n, 2)
				wantOut(t, n, 2, byKeys(keys)...)
			})
		}
	}
}

// TestNothingIsKept: of a heap with nothing in it nothing is kept.
func TestNothingIsKept(t *testing.T) {
	n := fresh(t, 4, 4)
	fill(t, n, 1, 0, 1, 2)
	fill(t, n, 2, 2, 3)
	meld(t, n, 3, 4)
	meld(t, n, 3, 1)
	meld(t, n, 2, 3)
	if len(n.tops) != 1 {
		t.Fatalf("%d heaps are kept, not one", len(n.tops))
	}
	remove(t, n, 1)
	wantOut(t, n, 2, 0, 2)
	if len(n.tops) != 0 {
		t.Errorf("%d heaps are kept, though nothing is in them", len(n.tops))
	}
}

package shed

import (
	"container/heap"
	"testing"

	"haycock/api"
	"haycock/gauge"
)

// library is the Config of these heaps.
var library = api.Config{Kind: api.KindLibrary}

// fresh is a new nest with so many heaps.
func fresh(t *testing.T, capacity, heaps int) *Nest {
	t.Helper()
	n, e := New(capacity)
	if e != api.OK || n == nil || n.Capacity() != capacity || n.Steps() != 0 {
		t.Fatalf("New(%d) = %v, %d", capacity, n, e)
	}
	for i := range heaps {
		if h := n.Make(); h != i+1 {
			t.Fatalf("Make() = %d, not %d", h, i+1)
		}
	}
	return n
}

// fill puts keys into a heap, from a slot on.
func fill(t *testing.T, n *Nest, h, slot int, keys ...int64) {
	t.Helper()
	for i, k := range keys {
		if !n.Insert(h, slot+i, api.Entry{Key: k}) {
			t.Fatalf("Insert(%d, %d, %d) = false", h, slot+i, k)
		}
	}
}

// wantOut extracts those slots, and no other one.
func wantOut(t *testing.T, n *Nest, h int, want ...int) {
	t.Helper()
	for _, slot := range want {
		if got, ok := n.Min(h); !ok || got != slot {
			t.Fatalf("Min(%d) = %d, %v, not %d", h, got, ok, slot)
		}
		if got, ok := n.Extract(h); !ok || got != slot {
			t.Fatalf("Extract(%d) = %d, %v, not %d", h, got, ok, slot)
		}
	}
	if got, ok := n.Extract(h); ok || got != 0 {
		t.Fatalf("Extract(%d) = %d, %v, though nothing is left", h, got, ok)
	}
	if got, ok := n.Min(h); ok || got != 0 {
		t.Fatalf("Min(%d) = %d, %v, though nothing is left", h, got, ok)
	}
}

func TestNew(t *testing.T) {
	for _, capacity := range []int{-1 << 63, -65536, -1, 65537, 1 << 32, 1<<63 - 1} {
		if n, e := New(capacity); n != nil || e != api.ErrRange {
			t.Errorf("New(%d) = %v, %d", capacity, n, e)
		}
	}
	for _, capacity := range []int{0, 1, 65535, 65536} {
		n := fresh(t, capacity, 0)
		if n.Has(1) || n.Len(1) != 0 {
			t.Errorf("New(%d) has a heap", capacity)
		}
	}
}

// TestExample is the chapter's.
func TestExample(t *testing.T) {
	n := fresh(t, 3, 1)
	fill(t, n, 1, 0, 5, 3, 4)
	wantOut(t, n, 1, 1, 2, 0)
}

// TestTies: the lower slot comes out first, in whichever order the same entries came in.
func TestTies(t *testing.T) {
	n := fresh(t, 5, 2)
	for _, slot := range []int{3, 1, 4, 0, 2} {
		fill(t, n, 1+slot%2, slot, 6)
	}
	if !n.Meld(2, 1) {
		t.Fatal("not melded")
	}
	wantOut(t, n, 2, 0, 1, 2, 3, 4)
}

// TestDecrease: a lower entry or the same one, no greater one, and none of a slot that is in no heap.
func TestDecrease(t *testing.T) {
	n := fresh(t, 6, 1)
	fill(t, n, 1, 0, 1, 2, 3, 4, 5)
	for slot := range 5 {
		if n.Decrease(slot, api.Entry{Key: int64(slot + 1), Seq: 1}) || !n.Decrease(slot, api.Entry{Key: int64(slot + 1)}) {
			t.Errorf("Decrease of %d", slot)
		}
	}
	for _, slot := range []int{-1 << 63, -1, 5, 6, 1<<63 - 1} {
		if n.Decrease(slot, api.Entry{Key: -1 << 63}) {
			t.Errorf("Decrease(%d) = true", slot)
		}
	}
	if !n.Decrease(4, api.Entry{}) || !n.Decrease(2, api.Entry{Key: -1}) {
		t.Error("not decreased")
	}
	wantOut(t, n, 1, 2, 4, 0, 1, 3)
}

// TestDelete deletes a slot whose place comes to one that belongs above it, and to one that belongs there.
func TestDelete(t *testing.T) {
	for _, rest := range [][]int64{{2, 3}, {2, 3, 13}} {
		n := fresh(t, 8, 1)
		fill(t, n, 1, 0, 0, 10, 1, 11, 12)
		fill(t, n, 1, 5, rest...)
		if !n.Delete(3) || n.Delete(3) || n.Delete(-1) || n.Delete(8) {
			t.Fatal("Delete")
		}
		if _, ok := n.Home(3); ok || n.Len(1) != 4+len(rest) {
			t.Fatal("3 is in a heap yet")
		}
		wantOut(t, n, 1, []int{0, 2, 5, 6, 1, 4, 7}[:4+len(rest)]...)
	}
}

// TestMeldMovesTheLesser: a Meld takes few steps, whichever of both heaps is the lesser one, and however they are ordered.
func TestMeldMovesTheLesser(t *testing.T) {
	for _, turned := range []bool{false, true} {
		n := fresh(t, 1002, 2)
		for i := range 1000 {
			fill(t, n, 1, i, int64(2000-i))
		}
		fill(t, n, 2, 1000, 5, 3000)
		a, b, steps := 1, 2, n.Steps()
		if turned {
			a, b = 2, 1
		}
		if !n.Meld(a, b) || n.Has(b) || n.Len(b) != 0 || n.Len(a) != 1002 {
			t.Fatalf("Meld(%d, %d)", a, b)
		}
		if took, most := n.Steps()-steps, 3*gauge.Limit(library, 1003); took > most {
			t.Errorf("Meld(%d, %d) took %d steps, not at most %d", a, b, took, most)
		}
		if slot, ok := n.Min(a); !ok || slot != 1000 {
			t.Errorf("Min(%d) = %d, %v", a, slot, ok)
		}
	}
}

// TestSteps: one is counted for each question of the library's which of two slots is ahead.
func TestSteps(t *testing.T) {
	n := fresh(t, 3, 1)
	fill(t, n, 1, 0, 2)
	if n.Steps() != 0 {
		t.Errorf("%d steps, though there was one slot alone", n.Steps())
	}
	fill(t, n, 1, 1, 1)
	if n.Steps() != 1 {
		t.Errorf("%d steps for two slots", n.Steps())
	}
	l := n.list(1)
	if !l.Less(0, 1) || l.Less(1, 0) || n.Steps() != 3 {
		t.Errorf("%d steps behind two questions more", n.Steps())
	}
}

// TestStepsOfTheLibrary: of a heap of its own, of the same keys, the library asks as often.
func TestStepsOfTheLibrary(t *testing.T) {
	n := fresh(t, 500, 1)
	own := &plainList{}
	for slot := range 500 {
		k := int64(slot * 7919 % 501)
		fill(t, n, 1, slot, k)
		heap.Push(own, k)
	}
	for range 500 {
		slot, _ := n.Min(1)
		e, _ := n.Entry(slot)
		if k := heap.Pop(own); e.Key != k {
			t.Fatalf("the key %d, not %d", e.Key, k)
		}
		if got, ok := n.Extract(1); !ok || got != slot {
			t.Fatalf("Extract(1) = %d, %v, not %d", got, ok, slot)
		}
	}
	if n.Steps() != own.asked {
		t.Errorf("%d steps, where the library asks %d times", n.Steps(), own.asked)
	}
}

// plainList is as plain a list as the library takes.
type plainList struct {
	keys  []int64
	asked int
}

func (l *plainList) Len() int      { return len(l.keys) }
func (l *plainList) Swap(i, j int) { l.keys[i], l.keys[j] = l.keys[j], l.keys[i] }
func (l *plainList) Push(x any)    { l.keys = append(l.keys, x.(int64)) }

func (l *plainList) Less(i, j int) bool {
	l.asked++
	return l.keys[i] < l.keys[j]
}

func (l *plainList) Pop() any {
	last := len(l.keys) - 1
	k := l.keys[last]
	l.keys = l.keys[:last]
	return k
}

// TestNothingIsKept: of a heap with nothing in it no list is kept.
func TestNothingIsKept(t *testing.T) {
	n := fresh(t, 4, 4)
	fill(t, n, 1, 0, 1, 2)
	fill(t, n, 2, 2, 3)
	if !n.Meld(3, 4) || !n.Meld(3, 1) || !n.Meld(2, 3) || len(n.lists) != 1 {
		t.Fatalf("%d lists of one heap", len(n.lists))
	}
	if !n.Delete(1) {
		t.Fatal("not deleted")
	}
	wantOut(t, n, 2, 0, 2)
	if len(n.lists) != 0 {
		t.Errorf("%d lists, though nothing is in a heap", len(n.lists))
	}
}

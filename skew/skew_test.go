package skew

import (
	"slices"
	"testing"

	"haycock/api"
	"haycock/gauge"
)

// config is that of these heaps.
var config = api.Config{Kind: api.KindSkew}

// farNumbers are of no slot and of no heap; some of them would be of one in fewer bits.
var farNumbers = []int{
	-1 << 63, -1<<63 + 1, -1 << 32, -65536, -65535, -2, -1, 65537, 65538, 1<<31 - 1, 1 << 32, 1<<32 + 1, 1<<63 - 1,
}

// counted is a nest, and how many calls there were.
type counted struct {
	*Nest
	t     *testing.T
	calls int
}

// fresh is a new nest with so many heaps.
func fresh(t *testing.T, capacity, heaps int) *counted {
	t.Helper()
	n, e := New(capacity)
	if e != api.OK || n == nil || n.Capacity() != capacity || n.Steps() != 0 {
		t.Fatalf("New(%d) = %v, %d", capacity, n, e)
	}
	c := &counted{Nest: n, t: t}
	for i := range heaps {
		c.call(true, func() bool { return n.Make() == i+1 })
	}
	return c
}

// call does a call, and asks for that answer, and for no more steps than all calls up to it may take together.
func (c *counted) call(want bool, do func() bool) {
	c.t.Helper()
	if do() != want {
		c.t.Fatalf("call %d: not as it should be", c.calls)
	}
	c.calls++
	if steps, most := c.Steps(), gauge.Whole(config, c.calls); steps > most {
		c.t.Fatalf("%d calls took %d steps, not at most %d", c.calls, steps, most)
	}
}

// insert, decrease, remove, meld and extract ask for true.

func (c *counted) insert(h, slot int, k int64) {
	c.t.Helper()
	c.call(true, func() bool { return c.Insert(h, slot, api.Entry{Key: k}) })
}

func (c *counted) decrease(slot int, k int64) {
	c.t.Helper()
	c.call(true, func() bool { return c.Decrease(slot, api.Entry{Key: k}) })
}

func (c *counted) remove(slot int) {
	c.t.Helper()
	c.call(true, func() bool { return c.Delete(slot) })
}

func (c *counted) meld(a, b int) {
	c.t.Helper()
	c.call(true, func() bool { return c.Meld(a, b) })
}

func (c *counted) extract(h, want int) {
	c.t.Helper()
	c.call(true, func() bool {
		c.t.Helper()
		slot, ok := c.Extract(h)
		if slot != want {
			c.t.Fatalf("Extract(%d) = %d, %v, not %d", h, slot, ok, want)
		}
		return ok
	})
}

// fill puts keys into a heap, from a slot on.
func (c *counted) fill(h, slot int, keys ...int64) {
	c.t.Helper()
	for i, k := range keys {
		c.insert(h, slot+i, k)
	}
}

// wantOut extracts those slots, and no other one.
func (c *counted) wantOut(h int, want ...int) {
	c.t.Helper()
	for _, slot := range want {
		if got, ok := c.Min(h); !ok || got != slot {
			c.t.Fatalf("Min(%d) = %d, %v, not %d", h, got, ok, slot)
		}
		c.extract(h, slot)
		if _, in := c.Home(slot); in {
			c.t.Fatalf("%d is in a heap, though it came out", slot)
		}
	}
	if got, ok := c.Extract(h); ok || got != 0 {
		c.t.Fatalf("Extract(%d) = %d, %v, though nothing is left", h, got, ok)
	}
	if got, ok := c.Min(h); ok || got != 0 {
		c.t.Fatalf("Min(%d) = %d, %v, though nothing is left", h, got, ok)
	}
}

// byKeys is the slots as they should come out, of which slot i has the key keys[i].
func byKeys(keys []int64) []int {
	all := make([]int, len(keys))
	for i := range all {
		all[i] = i
	}
	slices.SortStableFunc(all, func(a, b int) int {
		switch {
		case keys[a] < keys[b]:
			return -1
		case keys[a] > keys[b]:
			return 1
		}
		return 0
	})
	return all
}

// keysOf is so many keys, each told by its place.
func keysOf(count int, key func(i int) int) []int64 {
	keys := make([]int64, count)
	for i := range keys {
		keys[i] = int64(key(i))
	}
	return keys
}

// mixed is keys below 100, some of them alike.
func mixed(count int) []int64 {
	return keysOf(count, func(i int) int { return i * 7919 % 1009 % 100 })
}

// falling is keys each of which is less than all ahead: their tree is a way to the left.
func falling(count int) []int64 {
	return keysOf(count, func(i int) int { return -i })
}

// rising is keys each of which is greater than all ahead: their tree is a flat one.
func rising(count int) []int64 {
	return keysOf(count, func(i int) int { return i })
}

// swung is keys each of which is either less or greater than all ahead, by turns: half of them are a way to the right.
func swung(count int) []int64 {
	return keysOf(count, func(i int) int { return i * (1 - 2*(i%2)) })
}

// forShapes runs a test on keys of which the heaps have several shapes.
func forShapes(count int, test func(keys []int64)) {
	for _, keys := range [][]int64{rising(count), falling(count), mixed(count), make([]int64, count), swung(count)} {
		test(keys)
	}
}

// TestNew: all edges of what a capacity may be.
func TestNew(t *testing.T) {
	for _, capacity := range farNumbers {
		if n, e := New(capacity); n != nil || e != api.ErrRange {
			t.Errorf("New(%d) = %v, %d", capacity, n, e)
		}
	}
	for _, capacity := range []int{0, 1, 2, 65535, 65536} {
		c := fresh(t, capacity, 0)
		for _, x := range []int{0, 1, capacity - 1, capacity} {
			_, some := c.Min(x)
			_, in := c.Home(x)
			if c.Has(x) || c.Len(x) != 0 || some || in {
				t.Errorf("New(%d) has %d", capacity, x)
			}
		}
	}
}

// TestExample is the chapter's.
func TestExample(t *testing.T) {
	c := fresh(t, 100, 1)
	for slot := range 100 {
		c.insert(1, slot, int64(slot+1))
	}
	for slot := range 100 {
		c.extract(1, slot)
	}
	if most := gauge.Whole(config, 200); most != 32000 || c.Steps() == 0 || c.Steps() > most {
		t.Errorf("%d steps of %d", c.Steps(), most)
	}
}

// TestOut: whatever comes in comes out in order.
func TestOut(t *testing.T) {
	for _, count := range []int{0, 1, 2, 3, 4, 6, 7, 8, 14, 15, 16, 17, 63, 64, 500} {
		forShapes(count, func(keys []int64) {
			c := fresh(t, count, 1)
			for slot, k := range keys {
				c.insert(1, slot, k)
				c.wantShape(1)
			}
			c.wantOut(1, byKeys(keys)...)
		})
	}
}

// TestTies: the lower slot comes out first, in whichever order the same entries came in.
func TestTies(t *testing.T) {
	c := fresh(t, 50, 2)
	for i := range 50 {
		slot := i * 17 % 50
		c.insert(1+slot%2, slot, 6)
	}
	c.meld(2, 1)
	c.wantShape(2)
	c.wantOut(2, byKeys(make([]int64, 50))...)
}

// TestDecrease: a lower entry or the same one, no greater one, and none of a slot that is in no heap.
func TestDecrease(t *testing.T) {
	c := fresh(t, 6, 1)
	c.fill(1, 0, 1, 2, 3, 4, 5)
	for slot := range 5 {
		same := api.Entry{Key: int64(slot + 1)}
		if c.Decrease(slot, api.Entry{Key: same.Key, Seq: 1}) || !c.Decrease(slot, same) {
			t.Errorf("Decrease of %d", slot)
		}
		if e, ok := c.Entry(slot); !ok || e != same {
			t.Errorf("Entry(%d) = %v, %v", slot, e, ok)
		}
	}
	for _, slot := range append([]int{5, 6}, farNumbers...) {
		if c.Decrease(slot, api.Entry{Key: -1 << 63}) {
			t.Errorf("Decrease(%d) = true", slot)
		}
	}
	c.decrease(4, 0)
	c.decrease(2, -1)
	c.wantShape(1)
	c.wantOut(1, 2, 4, 0, 1, 3)
}

// TestDecreaseBySlot: a slot whose entry comes to be that of what is above it is ahead of it, if it is the lower one.
func TestDecreaseBySlot(t *testing.T) {
	c := fresh(t, 4, 1)
	c.insert(1, 2, 5)
	c.insert(1, 1, 6)
	c.insert(1, 3, 7)
	c.decrease(3, 5)
	if top, _ := c.Min(1); top != 2 {
		t.Errorf("Min(1) = %d", top)
	}
	c.wantShape(1)
	c.decrease(1, 5)
	if top, _ := c.Min(1); top != 1 {
		t.Errorf("Min(1) = %d", top)
	}
	c.wantShape(1)
	c.wantOut(1, 1, 2, 3)
}

// TestDecreaseEach decreases one slot, at each place of a heap, to be the first one, and to be about the middle.
func TestDecreaseEach(t *testing.T) {
	const count = 70
	forShapes(count, func(keys []int64) {
		for slot := range count {
			for _, to := range []int64{-1000, keys[slot] - 3, (keys[slot] - 70) / 2} {
				c := fresh(t, count, 1)
				c.fill(1, 0, keys...)
				now := slices.Clone(keys)
				now[slot] = min(to, keys[slot])
				c.decrease(slot, now[slot])
				c.wantShape(1)
				c.wantOut(1, byKeys(now)...)
			}
		}
	})
}

// TestDeleteEach deletes one slot, at each place of a heap, and takes the rest out.
func TestDeleteEach(t *testing.T) {
	const count = 70
	forShapes(count, func(keys []int64) {
		for gone := range count {
			c := fresh(t, count, 1)
			c.fill(1, 0, keys...)
			c.remove(gone)
			if c.Delete(gone) || c.Len(1) != count-1 {
				t.Fatalf("%d is in a heap yet", gone)
			}
			c.wantShape(1)
			rest := slices.DeleteFunc(byKeys(keys), func(slot int) bool { return slot == gone })
			c.wantOut(1, rest...)
		}
	})
}

// TestMeld: heaps of unlike sizes and shapes, whichever is the first one, and heaps without slots.
func TestMeld(t *testing.T) {
	for _, a := range []int{0, 1, 2, 7, 31, 100} {
		for _, b := range []int{0, 1, 3, 15, 64, 100} {
			forShapes(a+b, func(keys []int64) {
				c := fresh(t, a+b, 2)
				c.fill(1, 0, keys[:a]...)
				c.fill(2, a, keys[a:]...)
				c.meld(2, 1)
				if c.Has(1) || c.Len(1) != 0 || c.Len(2) != a+b || c.Meld(1, 2) || c.Meld(2, 1) || c.Meld(2, 2) {
					t.Fatalf("Meld of %d and %d slots", b, a)
				}
				c.wantShape(2)
				c.wantOut(2, byKeys(keys)...)
			})
		}
	}
}

// TestNothingIsKept: of a heap with nothing in it nothing is kept.
func TestNothingIsKept(t *testing.T) {
	c := fresh(t, 4, 4)
	c.fill(1, 0, 1, 2)
	c.fill(2, 2, 3)
	c.meld(3, 4)
	c.meld(3, 1)
	c.meld(2, 3)
	if len(c.tops) != 1 {
		t.Fatalf("%d heaps are kept, not one", len(c.tops))
	}
	c.remove(1)
	c.wantOut(2, 0, 2)
	if len(c.tops) != 0 {
		t.Errorf("%d heaps are kept, though nothing is in them", len(c.tops))
	}
}

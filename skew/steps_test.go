package skew

import (
	"slices"
	"testing"

	"haycock/api"
	"haycock/gauge"
)

// most is the greatest capacity.
const most = 65536

// wantSteps asks for so many steps from the beginning on.
func (c *counted) wantSteps(what string, want int) {
	c.t.Helper()
	if got := c.Steps(); got != want {
		c.t.Fatalf("%s: %d steps, not %d", what, got, want)
	}
}

// TestSteps: one is counted for each question which of two slots is ahead, and none where there is nothing to ask.
func TestSteps(t *testing.T) {
	c := fresh(t, 4, 3)
	c.wantSteps("New and Make", 0)
	c.insert(1, 0, 2)
	c.wantSteps("one slot", 0)
	c.insert(1, 1, 1)
	c.wantSteps("two slots", 1)
	c.insert(2, 2, 5)
	c.meld(3, 2)
	c.wantSteps("a Meld into none", 1)
	c.meld(1, 3)
	c.wantSteps("a Meld of two slots and one", 2)
	c.Min(1)
	c.Capacity()
	c.Has(1)
	c.Len(1)
	c.Entry(1)
	c.Home(1)
	c.wantSteps("what changes nothing", 2)
	c.remove(0)
	c.remove(2)
	c.wantSteps("what had nothing below it", 2)
	c.decrease(1, 0)
	c.wantSteps("what had nothing above it", 2)
	c.extract(1, 1)
	c.wantSteps("the last one", 2)
}

// TestStepsOfFalse: a call that answers false takes no more steps than its turn, and changes nothing.
func TestStepsOfFalse(t *testing.T) {
	c := fresh(t, 302, 4)
	c.fill(1, 0, mixed(200)...)
	c.fill(2, 200, mixed(100)...)
	c.meld(3, 4)
	first, _ := c.Min(1)
	second, _ := c.Min(2)
	wantFirst, wantSecond := c.forest.trees.All(first), c.forest.trees.All(second)
	for _, slot := range append([]int{300, 301, 302}, farNumbers...) {
		c.call(false, func() bool { return c.Delete(slot) })
		c.call(false, func() bool { return c.Decrease(slot, api.Entry{Key: -9}) })
	}
	for _, h := range append([]int{0, 4, 5}, farNumbers...) {
		c.call(false, func() bool { slot, ok := c.Min(h); return ok || slot != 0 })
		c.call(false, func() bool { slot, ok := c.Extract(h); return ok || slot != 0 })
		c.call(false, func() bool { return c.Insert(h, 300, api.Entry{}) })
		c.call(false, func() bool { return c.Meld(1, h) })
		c.call(false, func() bool { return c.Meld(h, 2) })
		c.call(false, func() bool { return c.Meld(h, h) })
	}
	for _, slot := range append([]int{0, 199, 200, 299, 302}, farNumbers...) {
		c.call(false, func() bool { return c.Insert(1, slot, api.Entry{Key: -9}) })
	}
	c.call(false, func() bool { slot, ok := c.Extract(3); return ok || slot != 0 })
	c.call(false, func() bool { return c.Decrease(5, api.Entry{Key: 100}) })
	c.call(false, func() bool { return c.Meld(1, 1) })
	if !slices.Equal(c.forest.trees.All(first), wantFirst) || !slices.Equal(c.forest.trees.All(second), wantSecond) {
		t.Error("the trees are others")
	}
	if c.Len(1) != 200 || c.Len(2) != 100 || c.Make() != 5 {
		t.Error("something was changed")
	}
	c.wantShape(5)
}

// TestThousandRising: a thousand keys that rise come in, and out.
func TestThousandRising(t *testing.T) {
	const count = 1000
	c := fresh(t, count, 1)
	c.fill(1, 0, rising(count)...)
	for slot := range count {
		c.extract(1, slot)
	}
	if bound := gauge.Whole(config, 2*count); c.Steps() == 0 || c.Steps() > bound {
		t.Errorf("%d steps of %d", c.Steps(), bound)
	}
}

// TestLongWay: where half of all slots are a way to the right, a call may go it to its end; but then it is short.
func TestLongWay(t *testing.T) {
	const count = most - 3
	c := fresh(t, most, 1)
	keys := swung(count)
	c.fill(1, 0, keys...)
	top, _ := c.Min(1)
	long := len(c.forest.trees.Spine(top))
	if long != (count+1)/2 {
		t.Fatalf("the way to the right has %d slots", long)
	}
	steps := c.Steps()
	c.insert(1, count, most)
	c.wantSteps("the first Insert", steps+long)
	steps = c.Steps()
	c.insert(1, count+1, most)
	if took := c.Steps() - steps; took > 2 {
		t.Errorf("the second Insert took %d steps", took)
	}
	c.wantShape(1)
	for _, slot := range byKeys(append(keys, most, most)) {
		c.extract(1, slot)
	}
}

// TestLongWays melds, cuts and takes apart ways to the right as long as they can be, and ways to the left.
func TestLongWays(t *testing.T) {
	for _, keys := range [][]int64{swung(most), falling(most)} {
		c := fresh(t, most, 2)
		for slot, k := range keys {
			c.insert(1+slot/2%2, slot, k)
		}
		c.meld(2, 1)
		c.wantShape(2)
		for i := range most / 2 {
			slot := i * 40503 % most
			keys[slot] = min(keys[slot], int64(-slot-most/2))
			c.decrease(slot, keys[slot])
		}
		c.wantShape(2)
		for slot := 0; slot < most; slot += 2 {
			c.remove(slot)
		}
		c.wantShape(2)
		for _, slot := range byKeys(keys) {
			if slot%2 == 1 {
				c.extract(2, slot)
			}
		}
	}
}

// TestInAndOut: as what comes out comes in again, behind all others or ahead of them, no way stays long.
func TestInAndOut(t *testing.T) {
	const count, rounds = 512, 40000
	for _, by := range []int64{0, 1, 100, 10000} {
		forShapes(count, func(keys []int64) {
			c := fresh(t, count, 1)
			c.fill(1, 0, keys...)
			for i := range rounds {
				slot, ok := c.Min(1)
				if !ok {
					t.Fatal("nothing is in it")
				}
				e, _ := c.Entry(slot)
				c.extract(1, slot)
				c.insert(1, slot, e.Key+by*int64(i%3-1))
			}
			c.wantShape(1)
		})
	}
}

// TestDecreaseAgain: as what is last comes to be first, again and again, no way stays long.
func TestDecreaseAgain(t *testing.T) {
	const count, rounds = 512, 60000
	for _, step := range []int{1, 3, 131, 511} {
		forShapes(count, func(keys []int64) {
			c := fresh(t, count, 1)
			c.fill(1, 0, keys...)
			for i := range rounds {
				c.decrease(i*step%count, int64(-2*count-i))
			}
			c.wantShape(1)
		})
	}
}

// TestMeldOfLikes melds heaps of one size each, by twos, whose ways to the right are all gone to their ends.
func TestMeldOfLikes(t *testing.T) {
	const each = 8
	heaps := most / each
	c := fresh(t, most, heaps)
	for h := range heaps {
		for i, k := range swung(each) {
			c.insert(h+1, h*each+i, k*int64(heaps)+int64(h))
		}
	}
	for apart := 1; apart < heaps; apart *= 2 {
		for h := 1; h <= heaps; h += 2 * apart {
			c.meld(h, h+apart)
		}
	}
	c.wantShape(heaps)
	order := byKeys(swung(each))
	for i := range most {
		c.extract(1, i%heaps*each+order[i/heaps])
	}
}

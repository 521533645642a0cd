package skew

import (
	"testing"

	"haycock/api"
	"haycock/entry"
)

// aheadOf is which of two slots is ahead, without a step.
func (c *counted) aheadOf(a, b int) bool {
	x, _ := c.Entry(a)
	y, _ := c.Entry(b)
	if x == y {
		return a < b
	}
	return entry.Less(x, y)
}

// wantShape holds the trees of a nest of which so many heaps were made. It takes no steps.
func (c *counted) wantShape(heaps int) {
	c.t.Helper()
	steps := c.Steps()
	for h := range heaps + 2 {
		c.wantTree(h)
	}
	for slot := range c.Capacity() {
		if _, in := c.Home(slot); !in {
			c.wantLoose(slot)
		}
	}
	if took := c.Steps() - steps; took != 0 {
		c.t.Fatalf("to look took %d steps", took)
	}
}

// wantTree holds a heap's tree: that all slots of the heap are in it, and none is ahead of that above it.
func (c *counted) wantTree(h int) {
	c.t.Helper()
	top, ok := c.Min(h)
	if ok != (c.Len(h) > 0) {
		c.t.Fatalf("Min(%d) = %d, %v, of %d slots", h, top, ok, c.Len(h))
	}
	if !ok {
		return
	}
	if p, below := c.forest.trees.Up(top); below {
		c.t.Fatalf("%d, topmost in %d, is below %d", top, h, p)
	}
	all := c.forest.trees.All(top)
	if len(all) != c.Len(h) {
		c.t.Fatalf("the tree of %d has %d slots, not %d", h, len(all), c.Len(h))
	}
	for _, slot := range all {
		if home, _ := c.Home(slot); home != h {
			c.t.Fatalf("%d, in the tree of %d, is in %d", slot, h, home)
		}
		if p, below := c.forest.trees.Up(slot); below && c.aheadOf(slot, p) {
			c.t.Fatalf("%d is below %d, and ahead of it", slot, p)
		}
	}
}

// wantLoose asks of a slot that is in no heap that it is in no tree, either.
func (c *counted) wantLoose(slot int) {
	c.t.Helper()
	_, below := c.forest.trees.Up(slot)
	_, left := c.forest.trees.Left(slot)
	_, right := c.forest.trees.Right(slot)
	if below || left || right {
		c.t.Fatalf("%d is in no heap, but in a tree: %v, %v, %v", slot, below, left, right)
	}
}

// tree is a slot and what is below it; nil is none.
type tree struct {
	slot        int
	left, right *tree
}

// put makes another tree of what is at a slot and below it.
func (x *tree) put(slot int, other func(*tree) *tree) *tree {
	if x == nil {
		return nil
	}
	if x.slot == slot {
		return other(x)
	}
	x.left, x.right = x.left.put(slot, other), x.right.put(slot, other)
	return x
}

// above is the slot above one.
func (x *tree) above(slot int) (int, bool) {
	if x == nil {
		return 0, false
	}
	for _, child := range []*tree{x.left, x.right} {
		if child != nil && child.slot == slot {
			return x.slot, true
		}
		if p, ok := child.above(slot); ok {
			return p, true
		}
	}
	return 0, false
}

// twin is a nest, its trees by the chapter's words alone, and how many steps they should have taken.
type twin struct {
	*counted
	trees map[int]*tree
	steps int
}

// merge makes one tree of two: the children of each slot that is met are turned.
func (w *twin) merge(a, b *tree) *tree {
	if a == nil {
		return b
	}
	if b == nil {
		return a
	}
	w.steps++
	if w.aheadOf(b.slot, a.slot) {
		a, b = b, a
	}
	a.left, a.right = w.merge(a.right, b), a.left
	return a
}

func (w *twin) insert(h, slot int, e api.Entry) {
	if w.Insert(h, slot, e) {
		w.trees[h] = w.merge(w.trees[h], &tree{slot: slot})
	}
}

func (w *twin) decrease(slot int, e api.Entry) {
	h, _ := w.Home(slot)
	if !w.Decrease(slot, e) {
		return
	}
	p, below := w.trees[h].above(slot)
	if !below {
		return
	}
	w.steps++
	if !w.aheadOf(slot, p) {
		return
	}
	var off *tree
	rest := w.trees[h].put(slot, func(x *tree) *tree {
		off = x
		return nil
	})
	w.trees[h] = w.merge(rest, off)
}

// remove and extract mend the tree first: behind the call no entry is known of the slot.
func (w *twin) remove(slot int) {
	if h, ok := w.Home(slot); ok {
		w.drop(h, slot)
	}
	w.Delete(slot)
}

func (w *twin) extract(h int) {
	if w.trees[h] != nil {
		w.drop(h, w.trees[h].slot)
	}
	w.Extract(h)
}

func (w *twin) drop(h, slot int) {
	w.trees[h] = w.trees[h].put(slot, func(x *tree) *tree { return w.merge(x.left, x.right) })
}

func (w *twin) meld(a, b int) {
	if w.Meld(a, b) {
		w.trees[a] = w.merge(w.trees[a], w.trees[b])
		w.trees[b] = nil
	}
}

// wantTwin holds each tree against its twin, slot for slot, and the steps, too.
func (w *twin) wantTwin(heaps int) {
	w.t.Helper()
	if w.Steps() != w.steps {
		w.t.Fatalf("%d steps, not %d", w.Steps(), w.steps)
	}
	for h := range heaps + 1 {
		top, ok := w.Min(h)
		w.wantSame(w.trees[h], top, ok)
	}
}

func (w *twin) wantSame(x *tree, slot int, ok bool) {
	w.t.Helper()
	if ok != (x != nil) || ok && x.slot != slot {
		w.t.Fatalf("the slot %d, %v stands where there should be %v", slot, ok, x)
	}
	if !ok {
		return
	}
	left, some := w.forest.trees.Left(slot)
	w.wantSame(x.left, left, some)
	right, some := w.forest.trees.Right(slot)
	w.wantSame(x.right, right, some)
}

// roller tells numbers below n that hang on the seed alone.
func roller(seed uint64) func(n int) int {
	mix := seed*2654435761 + 12345
	return func(n int) int {
		mix = mix*6364136223846793005 + 1442695040888963407
		return int(mix>>33) % n
	}
}

// TestTwins holds the trees behind each of many calls, which hang on a number that is mixed again and again.
func TestTwins(t *testing.T) {
	for seed := range uint64(80) {
		roll := roller(seed)
		capacity, heaps := 1+roll(60), 1+roll(5)
		w := &twin{counted: fresh(t, capacity, heaps), trees: map[int]*tree{}}
		for range 400 {
			h, slot, e := roll(heaps+2), roll(capacity+2)-1, api.Entry{Key: int64(roll(40)), Seq: uint64(roll(2))}
			w.call(true, func() bool {
				switch roll(12) {
				case 0:
					w.extract(h)
				case 1:
					w.remove(slot)
				case 2, 3, 4:
					w.decrease(slot, e)
				case 5:
					w.meld(h, roll(heaps+2))
				case 6:
					if w.Make() == heaps+1 {
						heaps++
					}
				default:
					w.insert(h, slot, e)
				}
				return true
			})
			w.wantShape(heaps)
			w.wantTwin(heaps)
		}
	}
}

// TestTwinsOfShapes holds trees of several shapes, as their slots come off and out.
func TestTwinsOfShapes(t *testing.T) {
	const count = 64
	forShapes(count, func(keys []int64) {
		for step := 1; step < count; step += 2 {
			w := &twin{counted: fresh(t, count, 1), trees: map[int]*tree{}}
			for slot, k := range keys {
				w.insert(1, slot, api.Entry{Key: k})
				w.wantTwin(1)
			}
			for i := range count {
				switch slot := i * step % count; i % 3 {
				case 0:
					w.remove(slot)
				case 1:
					w.decrease(slot, api.Entry{Key: keys[slot] - 40})
				default:
					w.extract(1)
				}
				w.wantShape(1)
				w.wantTwin(1)
			}
		}
	})
}

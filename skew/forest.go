package skew

import (
	"haycock/api"
	"haycock/cells"
	"haycock/spine"
)

// forest is trees of slots, in which none is ahead of that above it. Nothing is kept of
// how they lean: that each merge turns what it meets keeps the ways to the right short
// enough, all calls together.
type forest struct {
	// cells tell which slot is ahead.
	cells *cells.Cells
	trees *spine.Trees
}

// newForest is one for all slots there are.
func newForest(c *cells.Cells) (*forest, api.Errno) {
	t, e := spine.New(c.Capacity())
	if e != api.OK {
		return nil, e
	}
	return &forest{cells: c, trees: t}, api.OK
}

// merge makes one tree of two, and tells what is topmost in it. It goes down in a loop,
// and not by calls within calls: one way to the right may be as long as there are slots.
func (f *forest) merge(a, b int) int {
	a, b = f.order(a, b)
	top := a
	for {
		r, ok := f.turn(a)
		if !ok {
			f.trees.Hang(a, b, false)
			return top
		}
		r, b = f.order(r, b)
		f.trees.Hang(a, r, false)
		a = r
	}
}

// order: the slot that is ahead, and the other one.
func (f *forest) order(a, b int) (int, int) {
	if f.cells.Ahead(b, a) {
		return b, a
	}
	return a, b
}

// turn: a slot's children change sides, and its right one, now the left one, comes off.
func (f *forest) turn(x int) (int, bool) {
	f.trees.Turn(x)
	return f.loosen(f.trees.Left(x))
}

// loosen: a child comes off, if there is one.
func (f *forest) loosen(x int, ok bool) (int, bool) {
	if ok {
		f.cut(x)
	}
	return x, ok
}

// cut: a slot comes off, with all below it.
func (f *forest) cut(x int) {
	f.trees.Cut(x)
}

// rises: is a slot ahead of that above it?
func (f *forest) rises(x int) bool {
	p, ok := f.trees.Up(x)
	return ok && f.cells.Ahead(x, p)
}

// remove: a slot comes out of its tree, and what was below it comes to its place. It
// tells what is there, if something is.
func (f *forest) remove(x int) (int, bool) {
	rest, some := f.gather(x)
	p, below := f.trees.Up(x)
	if !below {
		return rest, some
	}
	right := f.isRight(p, x)
	f.cut(x)
	if some {
		f.trees.Hang(p, rest, right)
	}
	return rest, some
}

// isRight: is it the right child?
func (f *forest) isRight(p, x int) bool {
	r, ok := f.trees.Right(p)
	return ok && r == x
}

// gather makes one tree of all below a slot, and tells what is topmost in it, if
// something was there.
func (f *forest) gather(x int) (int, bool) {
	left, some := f.loosen(f.trees.Left(x))
	right, both := f.loosen(f.trees.Right(x))
	if some && both {
		return f.merge(left, right), true
	}
	if some {
		return left, true
	}
	return right, both
}

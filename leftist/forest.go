package leftist

import (
	"haycock/api"
	"haycock/cells"
	"haycock/spine"
)

// forest is trees of slots, in which none is ahead of that above it, and no right child
// has a greater rank than the left one.
type forest struct {
	// cells tell which slot is ahead.
	cells *cells.Cells
	trees *spine.Trees
	// ranks are those of the slots that are in trees.
	ranks []int
}

// newForest is one for all slots there are.
func newForest(c *cells.Cells) (*forest, api.Errno) {
	t, e := spine.New(c.Capacity())
	if e != api.OK {
		return nil, e
	}
	return &forest{cells: c, trees: t, ranks: make([]int, c.Capacity())}, api.OK
}

// rank is that of a slot; 0, where there is none.
func (f *forest) rank(x int, ok bool) int {
	if !ok {
		return 0
	}
	return f.ranks[x]
}

// plant: a slot is a tree by itself.
func (f *forest) plant(x int) {
	f.ranks[x] = 1
}

// merge makes one tree of two, and tells what is topmost in it. Ways to the right alone
// are gone: they are short.
func (f *forest) merge(a, b int) int {
	if f.cells.Ahead(b, a) {
		a, b = b, a
	}
	if r, ok := f.trees.Right(a); ok {
		f.trees.Cut(r)
		b = f.merge(r, b)
	}
	f.trees.Hang(a, b, true)
	f.settle(a)
	return a
}

// settle puts the children of a slot on their sides, and tells if its rank is another
// one by that.
func (f *forest) settle(x int) bool {
	left, right := f.rank(f.trees.Left(x)), f.rank(f.trees.Right(x))
	if left < right {
		f.trees.Turn(x)
	}
	was := f.ranks[x]
	f.ranks[x] = 1 + min(left, right)
	return f.ranks[x] != was
}

// mend settles a slot below which something changed, and what is above it, as long as
// ranks change by that. The way up is short, however deep the tree is: the ranks that
// change on it rise.
func (f *forest) mend(x int) {
	for ok := true; ok && f.settle(x); {
		x, ok = f.trees.Up(x)
	}
}

// rises: is a slot ahead of that above it?
func (f *forest) rises(x int) bool {
	p, ok := f.trees.Up(x)
	return ok && f.cells.Ahead(x, p)
}

// cut: a slot comes off, with all below it.
func (f *forest) cut(x int) {
	if p, ok := f.trees.Cut(x); ok {
		f.mend(p)
	}
}

// remove: a slot comes out of its tree, and what was below it comes to its place. It
// tells what is there, if something is.
func (f *forest) remove(x int) (int, bool) {
	rest, some := f.gather(x)
	p, ok := f.trees.Cut(x)
	if !ok {
		return rest, some
	}
	// Either side that is free will do: mend settles it.
	if some && !f.trees.Hang(p, rest, true) {
		f.trees.Hang(p, rest, false)
	}
	f.mend(p)
	return rest, some
}

// gather makes one tree of all below a slot, and tells what is topmost in it, if
// something was there.
func (f *forest) gather(x int) (int, bool) {
	left, some := f.trees.Left(x)
	if !some {
		// Nor is there a right one: its rank would be greater.
		return 0, false
	}
	f.trees.Cut(left)
	right, both := f.trees.Right(x)
	if !both {
		return left, true
	}
	f.trees.Cut(right)
	return f.merge(left, right), true
}

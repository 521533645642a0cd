package fibonacci

import (
	"slices"

	"haycock/api"
	"haycock/cells"
	"haycock/ring"
)

// none stands where a slot isn't tied to another one.
const none = -1

// node is how a slot stands in its tree.
type node struct {
	// up is what it is below.
	up int
	// kid is one of its children: all of them are in one ring.
	kid    int
	degree int
	// lost: a child came off it, since it came below another slot. Of what is topmost it
	// doesn't matter.
	lost bool
}

// trees are those of a heap: all slots that are topmost in them are in one ring.
type trees struct {
	// first is the slot that is ahead of all others, and so it is topmost.
	first int
	count int
}

// forest is trees of slots, in which none is ahead of that above it.
type forest struct {
	// cells tell which slot is ahead.
	cells *cells.Cells
	rings *ring.Rings
	nodes []node
}

// newForest is one for all slots there are.
func newForest(c *cells.Cells) (*forest, api.Errno) {
	r, e := ring.New(c.Capacity())
	if e != api.OK {
		return nil, e
	}
	nodes := slices.Repeat([]node{{up: none, kid: none}}, c.Capacity())
	return &forest{cells: c, rings: r, nodes: nodes}, api.OK
}

// degree: how many children a slot has; none has what is no slot.
func (f *forest) degree(x int) int {
	if x < 0 || x >= len(f.nodes) {
		return 0
	}
	return f.nodes[x].degree
}

// join: two heaps' trees are one heap's. None are linked: that waits till something is
// removed, for only then there is more to ask than which of two slots is first.
func (f *forest) join(a, b trees) trees {
	if a.count == 0 {
		return b
	}
	if b.count == 0 {
		return a
	}
	f.rings.Splice(a.first, b.first)
	first, _ := f.order(a.first, b.first)
	return trees{first: first, count: a.count + b.count}
}

// order: the slot that is ahead, and the other one.
func (f *forest) order(a, b int) (int, int) {
	if f.cells.Ahead(b, a) {
		return b, a
	}
	return a, b
}

// raise: a slot with a lower entry comes off, if it is ahead of what is above it.
func (f *forest) raise(t trees, x int) trees {
	if x == t.first || !f.rises(x) {
		return t
	}
	t = f.free(t, x)
	t.first, _ = f.order(t.first, x)
	return t
}

// rises: is nothing above a slot of which it isn't ahead?
func (f *forest) rises(x int) bool {
	up := f.nodes[x].up
	return up == none || f.cells.Ahead(x, up)
}

// free: a slot comes off what is above it, and is topmost. What has lost another child by
// then comes off, too, and so on: so a slot with many children has many slots below it,
// and no degree is great.
func (f *forest) free(t trees, x int) trees {
	for f.nodes[x].up != none {
		up := f.cut(x)
		f.rings.Splice(t.first, x)
		t.count++
		if !f.nodes[up].lost {
			f.nodes[up].lost = true
			break
		}
		x = up
	}
	return t
}

// cut: a slot comes off what is above it, with all below it. It tells what was above it.
func (f *forest) cut(x int) int {
	up := f.nodes[x].up
	next, _ := f.rings.Next(x)
	if next == x {
		next = none
	}
	f.rings.Part(x)
	f.nodes[up].kid = next
	f.nodes[up].degree--
	f.nodes[x].up = none
	return up
}

// remove: a slot comes out. If it was first, trees are linked, for which slot is first
// then must be asked of all that are topmost.
func (f *forest) remove(t trees, x int) trees {
	t = f.free(t, x)
	t.count += f.nodes[x].degree - 1
	f.split(x)
	next, _ := f.rings.Next(x)
	f.rings.Part(x)
	if x != t.first {
		return t
	}
	if t.count == 0 {
		return trees{}
	}
	return f.gather(next)
}

// split: all children of what is topmost come off it, and are topmost, too.
func (f *forest) split(x int) {
	// Where there is no child, nothing is in its ring, and nothing is spliced.
	kid := f.nodes[x].kid
	for _, each := range f.rings.All(kid) {
		f.nodes[each].up = none
	}
	f.rings.Splice(x, kid)
	f.nodes[x] = node{up: none, kid: none}
}

// gather links all trees of a ring, till no two of them have topmost slots of the same
// degree.
func (f *forest) gather(x int) trees {
	// At each place is what is topmost and has that degree, or none.
	var byDegree []int
	for _, root := range f.rings.All(x) {
		byDegree = f.place(byDegree, root)
	}
	roots := slices.DeleteFunc(byDegree, func(root int) bool { return root == none })
	first := roots[0]
	for _, root := range roots[1:] {
		first, _ = f.order(first, root)
	}
	return trees{first: first, count: len(roots)}
}

// place puts what is topmost where its degree is; where there is something, both are
// linked, and go one place on.
func (f *forest) place(byDegree []int, x int) []int {
	for {
		degree := f.nodes[x].degree
		for len(byDegree) <= degree {
			byDegree = append(byDegree, none)
		}
		other := byDegree[degree]
		if other == none {
			byDegree[degree] = x
			return byDegree
		}
		byDegree[degree] = none
		x = f.link(other, x)
	}
}

// link makes one tree of two, and tells what is topmost in it.
func (f *forest) link(a, b int) int {
	a, b = f.order(a, b)
	f.hang(a, b)
	return a
}

// hang: a slot that is topmost comes below another one.
func (f *forest) hang(p, x int) {
	f.rings.Part(x)
	// An only child stays alone: then there is no other one whose ring it could come into.
	f.rings.Splice(f.nodes[p].kid, x)
	f.nodes[p].kid = x
	f.nodes[p].degree++
	f.nodes[x].up, f.nodes[x].lost = p, false
}

package pairing

import (
	"slices"

	"haycock/cells"
)

// none stands where a slot isn't tied to another one.
const none = -1

// tie is what a slot is tied to. A row of children is tied both ways, so that one comes
// out of its midst without a look at the others.
type tie struct {
	// kid is its newest child.
	kid int
	// older is the next child in its row.
	older int
	// back is the child ahead in its row; of the newest one it is what is above it.
	back int
}

// forest is trees of slots, in which none is ahead of that above it.
type forest struct {
	// cells tell which slot is ahead.
	cells *cells.Cells
	ties  []tie
}

// newForest is one for all slots there are.
func newForest(c *cells.Cells) *forest {
	ties := slices.Repeat([]tie{{kid: none, older: none, back: none}}, c.Capacity())
	return &forest{cells: c, ties: ties}
}

// kids is a slot's children, the newest one first; none of what is no slot.
func (f *forest) kids(x int) []int {
	if x < 0 || x >= len(f.ties) {
		return nil
	}
	var row []int
	for kid := f.ties[x].kid; kid != none; kid = f.ties[kid].older {
		row = append(row, kid)
	}
	return row
}

// link makes one tree of two, and tells what is topmost in it.
func (f *forest) link(a, b int) int {
	if f.cells.Ahead(b, a) {
		a, b = b, a
	}
	f.hang(a, b)
	return a
}

// hang: a slot is the newest child of another one.
func (f *forest) hang(p, x int) {
	older := f.ties[p].kid
	f.ties[p].kid = x
	f.ties[x].older, f.ties[x].back = older, p
	if older != none {
		f.ties[older].back = x
	}
}

// cut: a slot comes off what is above it, with all below it.
func (f *forest) cut(x int) {
	back, older := f.ties[x].back, f.ties[x].older
	if f.ties[back].kid == x {
		f.ties[back].kid = older
	} else {
		f.ties[back].older = older
	}
	if older != none {
		f.ties[older].back = back
	}
	f.loosen(x)
}

// loosen: a slot is in no row any more.
func (f *forest) loosen(x int) {
	f.ties[x].older, f.ties[x].back = none, none
}

// gather makes one tree of all below a slot, which come off it, and tells what is topmost
// in it, if something was there.
func (f *forest) gather(x int) (int, bool) {
	row := f.byTwos(f.split(x))
	if len(row) == 0 {
		return 0, false
	}
	last := len(row) - 1
	top := row[last]
	for _, ahead := range slices.Backward(row[:last]) {
		top = f.link(ahead, top)
	}
	return top, true
}

// split: a slot's children come off it. It tells them.
func (f *forest) split(x int) []int {
	row := f.kids(x)
	f.ties[x].kid = none
	for _, kid := range row {
		f.loosen(kid)
	}
	return row
}

// byTwos links the first two trees of a row, the next two, and so on; a last one that is
// left over stays alone.
func (f *forest) byTwos(row []int) []int {
	var tops []int
	for two := range slices.Chunk(row, 2) {
		top := two[0]
		if len(two) == 2 {
			top = f.link(top, two[1])
		}
		tops = append(tops, top)
	}
	return tops
}

package binomial

import (
	"slices"

	"haycock/api"
	"haycock/carry"
	"haycock/cells"
)

// forest is cubes of slots, in which none is ahead of that above it. A heap is a row of
// their roots.
type forest struct {
	// cells tell which slot is ahead.
	cells *cells.Cells
	cubes *carry.Forest
}

// newForest is one for all slots there are.
func newForest(c *cells.Cells) (*forest, api.Errno) {
	f, e := carry.New(c.Capacity())
	if e != api.OK {
		return nil, e
	}
	return &forest{cells: c, cubes: f}, api.OK
}

// degrees: those of a row's roots.
func (f *forest) degrees(row []int) []int {
	all := make([]int, len(row))
	for i, root := range row {
		all[i] = f.cubes.Degree(root)
	}
	return all
}

// first: the root that is ahead of all others of its row, if there is one. So nothing
// has to be kept of it, for rows are short.
func (f *forest) first(row []int) (int, bool) {
	if len(row) == 0 {
		return 0, false
	}
	best := row[0]
	for _, root := range row[1:] {
		if f.cells.Ahead(root, best) {
			best = root
		}
	}
	return best, true
}

// merge makes one row of two.
func (f *forest) merge(a, b []int) []int {
	// It can be: both are rows of roots, and no slot is in two heaps.
	row, _ := f.cubes.Carry(f.cells, a, b)
	return row
}

// raise: a slot comes up as far as it is ahead of what is above it.
func (f *forest) raise(row []int, x int) {
	f.lift(row, x, func(above int) bool { return f.cells.Ahead(x, above) })
}

// remove: a slot comes out of its row. It tells the row of the others.
func (f *forest) remove(row []int, x int) []int {
	// Only what is topmost can come off its children: it goes there, whatever is above it.
	f.lift(row, x, func(int) bool { return true })
	rest := slices.DeleteFunc(row, func(root int) bool { return root == x })
	return f.merge(rest, f.cubes.Split(x))
}

// lift: a slot changes places with what is above it, as long as it is told to go further.
func (f *forest) lift(row []int, x int, further func(above int) bool) {
	p, ok := f.cubes.Up(x)
	for ok && further(p) {
		f.cubes.Lift(x)
		if i := slices.Index(row, p); i >= 0 {
			row[i] = x
		}
		p, ok = f.cubes.Up(x)
	}
}

package carry

import (
	"slices"
	"testing"

	"haycock/api"
	"haycock/sift"
)

const (
	leastInt    = -1 << 63
	greatestInt = 1<<63 - 1
)

// farThings are never there; some of them would be in fewer bits.
var farThings = []int{
	leastInt, leastInt + 1, -1 << 62, -1 << 32, -1<<32 + 1, -65537, -65536, -65535, -3, -2, -1,
	65536, 65537, 1 << 17, 1<<31 - 1, 1 << 31, 1 << 32, 1<<32 + 1, 1 << 62, greatestInt - 1, greatestInt,
}

// fresh is a new forest.
func fresh(t *testing.T, n int) *Forest {
	t.Helper()
	f, e := New(n)
	if e != api.OK || f == nil {
		t.Fatalf("New(%d) = %v, %d", n, f, e)
	}
	return f
}

// least is the Order by which the lesser number is ahead.
type least struct{ asked int }

func (l *least) Ahead(a, b int) bool {
	l.asked++
	return a < b
}

// wantLink links what can be linked.
func wantLink(t *testing.T, f *Forest, a, b int) {
	t.Helper()
	if !f.Link(a, b) {
		t.Fatalf("Link(%d, %d) = false", a, b)
	}
}

// wantLift lifts what can be lifted.
func wantLift(t *testing.T, f *Forest, x int) {
	t.Helper()
	if !f.Lift(x) {
		t.Fatalf("Lift(%d) = false", x)
	}
}

// wantList holds a list against what it should be.
func wantList(t *testing.T, call string, got []int, want ...int) {
	t.Helper()
	if !slices.Equal(got, want) {
		t.Fatalf("%s = %v, not %v", call, got, want)
	}
}

// wantThing asks for what is above a thing, where -1 stands for none, and for its children.
func wantThing(t *testing.T, f *Forest, x, up int, kids ...int) {
	t.Helper()
	if p, ok := f.Up(x); p != max(up, 0) || ok != (up >= 0) {
		t.Fatalf("Up(%d) = %d, %v, not %d", x, p, ok, up)
	}
	if got := f.Kids(x); !slices.Equal(got, kids) || f.Degree(x) != len(kids) {
		t.Fatalf("Kids(%d) = %v, Degree %d, not %v", x, got, f.Degree(x), kids)
	}
}

// wantNone asks in each way for things that aren't there.
func wantNone(t *testing.T, f *Forest, things ...int) {
	t.Helper()
	o := &least{}
	for _, x := range things {
		wantThing(t, f, x, -1)
		wantList(t, "Split", f.Split(x))
		if f.Lift(x) || f.Link(x, x) || f.Link(x, 0) || f.Link(0, x) || f.Row(x) {
			t.Fatalf("%d was linked or lifted, or is a root", x)
		}
		wantNoCarry(t, f, o, []int{x}, nil)
		wantNoCarry(t, f, o, nil, []int{x})
	}
	if o.asked != 0 {
		t.Fatalf("%d questions where nothing was carried", o.asked)
	}
}

// wantRow asks whether a list is a row of roots.
func wantRow(t *testing.T, f *Forest, want bool, l ...int) {
	t.Helper()
	if f.Row(l...) != want {
		t.Fatalf("Row(%v) = %v", l, !want)
	}
}

// wantCarry carries two rows, and asks for that row.
func wantCarry(t *testing.T, f *Forest, o sift.Order, a, b []int, want ...int) {
	t.Helper()
	row, ok := f.Carry(o, a, b)
	if !ok || !slices.Equal(row, want) {
		t.Fatalf("Carry(%v, %v) = %v, %v, not %v", a, b, row, ok, want)
	}
}

// wantNoCarry carries what can't be carried.
func wantNoCarry(t *testing.T, f *Forest, o sift.Order, a, b []int) {
	t.Helper()
	if row, ok := f.Carry(o, a, b); ok || len(row) != 0 {
		t.Fatalf("Carry(%v, %v) = %v, %v", a, b, row, ok)
	}
}

// cube links 2^degree things, from a first one on, so that the lesser one is above.
func cube(t *testing.T, f *Forest, first, degree int) {
	t.Helper()
	for step := 1; step < 1<<degree; step *= 2 {
		for x := 0; x < 1<<degree; x += 2 * step {
			wantLink(t, f, first+x, first+x+step)
		}
	}
}

func TestNewOfNone(t *testing.T) {
	for _, n := range []int{
		leastInt, leastInt + 1, -1 << 32, -1<<32 + 5, -65536, -2, -1,
		65537, 65538, 1 << 17, 1 << 31, 1 << 32, 1<<32 + 1, 1 << 62, greatestInt - 1, greatestInt,
	} {
		if f, e := New(n); f != nil || e != api.ErrRange {
			t.Errorf("New(%d) = %v, %d", n, f, e)
		}
	}
}

// TestNew: there are all things up to the last one, without children, and no more.
func TestNew(t *testing.T) {
	for _, n := range []int{0, 1, 2, 3, 100, 255, 256, 65535, 65536} {
		f := fresh(t, n)
		for x := range n {
			wantThing(t, f, x, -1)
			wantRow(t, f, true, x)
			wantList(t, "Split", f.Split(x))
			if f.Lift(x) {
				t.Fatalf("Lift(%d) = true", x)
			}
		}
		wantNone(t, f, n, n+1)
		wantNone(t, f, farThings...)
	}
}

// TestExample is the chapter's.
func TestExample(t *testing.T) {
	f, o := fresh(t, 4), &least{}
	wantCarry(t, f, o, []int{0}, []int{1}, 0)
	wantCarry(t, f, o, []int{2}, []int{3}, 2)
	wantCarry(t, f, o, []int{0}, []int{2}, 0)
	wantThing(t, f, 0, -1, 1, 2)
	wantThing(t, f, 1, 0)
	wantThing(t, f, 2, 0, 3)
	wantThing(t, f, 3, 2)
}

// family is cubes of the degrees 3, 2, 1, 0 and 0, whose roots are 0, 8, 12, 14 and 15.
func family(t *testing.T) *Forest {
	t.Helper()
	f := fresh(t, 16)
	cube(t, f, 0, 3)
	cube(t, f, 8, 2)
	cube(t, f, 12, 1)
	return f
}

// wantFamily asks whether all is as family made it.
func wantFamily(t *testing.T, f *Forest) {
	t.Helper()
	wantThing(t, f, 0, -1, 1, 2, 4)
	wantThing(t, f, 1, 0)
	wantThing(t, f, 2, 0, 3)
	wantThing(t, f, 3, 2)
	wantThing(t, f, 4, 0, 5, 6)
	wantThing(t, f, 5, 4)
	wantThing(t, f, 6, 4, 7)
	wantThing(t, f, 7, 6)
	wantThing(t, f, 8, -1, 9, 10)
	wantThing(t, f, 9, 8)
	wantThing(t, f, 10, 8, 11)
	wantThing(t, f, 11, 10)
	wantThing(t, f, 12, -1, 13)
	wantThing(t, f, 13, 12)
	wantThing(t, f, 14, -1)
	wantThing(t, f, 15, -1)
}

func TestFamily(t *testing.T) {
	f := family(t)
	wantFamily(t, f)
	wantNone(t, f, farThings...)
	wantNone(t, f, 16, 17)
	wantFamily(t, f)
}

// TestLinkOfNone: one thing twice, a thing above which there is one, degrees that are unlike, and no thing.
func TestLinkOfNone(t *testing.T) {
	f := family(t)
	roots := []int{0, 8, 12, 14, 15}
	for a := -1; a <= 16; a++ {
		for b := -1; b <= 16; b++ {
			if a != b && slices.Contains([]int{14, 15}, a) && slices.Contains([]int{14, 15}, b) {
				continue
			}
			if f.Link(a, b) {
				t.Fatalf("Link(%d, %d) = true, where %v are roots", a, b, roots)
			}
		}
	}
	wantFamily(t, f)
}

// TestLink: the second one comes last below the first one.
func TestLink(t *testing.T) {
	f := family(t)
	wantLink(t, f, 15, 14)
	wantThing(t, f, 15, -1, 14)
	wantThing(t, f, 14, 15)
	wantLink(t, f, 12, 15)
	wantThing(t, f, 12, -1, 13, 15)
	wantLink(t, f, 12, 8)
	wantThing(t, f, 12, -1, 13, 15, 8)
	wantLink(t, f, 0, 12)
	wantThing(t, f, 0, -1, 1, 2, 4, 12)
	wantThing(t, f, 12, 0, 13, 15, 8)
	wantThing(t, f, 15, 12, 14)
	wantThing(t, f, 8, 12, 9, 10)
	if f.Link(12, 0) || f.Link(0, 12) {
		t.Fatal("linked twice")
	}
}

// TestSplit: children come off those above which there is none, and off no others.
func TestSplit(t *testing.T) {
	f := family(t)
	for _, x := range []int{1, 2, 3, 4, 5, 6, 7, 9, 10, 11, 13, 14, 15} {
		wantList(t, "Split", f.Split(x))
	}
	wantFamily(t, f)
	wantList(t, "Split(0)", f.Split(0), 1, 2, 4)
	wantThing(t, f, 0, -1)
	wantThing(t, f, 1, -1)
	wantThing(t, f, 2, -1, 3)
	wantThing(t, f, 3, 2)
	wantThing(t, f, 4, -1, 5, 6)
	wantThing(t, f, 6, 4, 7)
	wantRow(t, f, true, 1, 2, 4)
	wantList(t, "Split(0)", f.Split(0))
	wantList(t, "Split(4)", f.Split(4), 5, 6)
	wantThing(t, f, 6, -1, 7)
	wantLink(t, f, 0, 1)
	wantLink(t, f, 4, 5)
	wantLink(t, f, 6, 2)
	wantThing(t, f, 6, -1, 7, 2)
	wantThing(t, f, 8, -1, 9, 10)
}

// TestLift lifts a thing that has less children, at the first, the last, and a place between.
func TestLift(t *testing.T) {
	f := family(t)
	wantLift(t, f, 1)
	wantThing(t, f, 1, -1, 0, 2, 4)
	wantThing(t, f, 0, 1)
	wantThing(t, f, 2, 1, 3)
	wantThing(t, f, 4, 1, 5, 6)
	wantLift(t, f, 2)
	wantThing(t, f, 2, -1, 0, 1, 4)
	wantThing(t, f, 1, 2, 3)
	wantThing(t, f, 0, 2)
	wantThing(t, f, 3, 1)
	wantLift(t, f, 7)
	wantThing(t, f, 7, 4, 6)
	wantThing(t, f, 6, 7)
	wantThing(t, f, 4, 2, 5, 7)
	wantLift(t, f, 7)
	wantThing(t, f, 7, 2, 5, 4)
	wantThing(t, f, 4, 7, 6)
	wantThing(t, f, 5, 7)
	wantThing(t, f, 6, 4)
	wantThing(t, f, 2, -1, 0, 1, 7)
	wantLift(t, f, 7)
	wantThing(t, f, 7, -1, 0, 1, 2)
	wantThing(t, f, 2, 7, 5, 4)
	for _, x := range []int{-1, 7, 8, 12, 14, 15, 16} {
		if f.Lift(x) {
			t.Fatalf("Lift(%d) = true", x)
		}
	}
	wantThing(t, f, 8, -1, 9, 10)
	wantThing(t, f, 12, -1, 13)
}

// TestLiftBack: who is lifted, and then who was above, is all as it was.
func TestLiftBack(t *testing.T) {
	f := family(t)
	for x := range 16 {
		p, ok := f.Up(x)
		if f.Lift(x) != ok {
			t.Fatalf("Lift(%d) = %v", x, !ok)
		}
		if ok {
			wantLift(t, f, p)
		}
		wantFamily(t, f)
	}
}

// TestRow: a row's things are roots, of degrees that rise.
func TestRow(t *testing.T) {
	f := family(t)
	for _, l := range [][]int{
		nil, {}, {0}, {8}, {12}, {14}, {15}, {14, 12}, {15, 0}, {12, 8}, {8, 0}, {14, 12, 8}, {15, 8, 0}, {15, 12, 8, 0},
	} {
		wantRow(t, f, true, l...)
	}
	for _, l := range [][]int{
		{1}, {4}, {13}, {-1}, {16}, {0, 0}, {14, 14}, {14, 15}, {15, 14}, {12, 14}, {0, 8}, {8, 12}, {14, 8, 12},
		{13, 12}, {14, 13}, {14, 10}, {1, 0}, {14, 4}, {14, 15, 12}, {14, 12, 12}, {14, 12, 16}, {-1, 12}, {16, 12, 8},
		{14, 12, 8, 0, 0}, {14, 12, 8, 0, 15}, {14, 12, 8, 4}, {14, 10, 0}, {leastInt}, {14, greatestInt},
	} {
		wantRow(t, f, false, l...)
	}
	wantRow(t, f, false, make([]int, 1<<20)...)
	wantFamily(t, f)
}

// TestCarryOfNone: what is no row of roots, on either side, and rows with a thing in both.
func TestCarryOfNone(t *testing.T) {
	f, o := family(t), &least{}
	rows := [][]int{nil, {14}, {14, 12}, {15, 8, 0}}
	for _, wrong := range [][]int{
		{1}, {-1}, {16}, {0, 0}, {14, 15}, {12, 14}, {0, 8}, {14, 13}, {13, 12}, {14, 12, 12}, {14, 12, 16}, {leastInt},
		{15, 12, 8, 0, 14}, make([]int, 1<<20),
	} {
		for _, row := range rows {
			wantNoCarry(t, f, o, wrong, row)
			wantNoCarry(t, f, o, row, wrong)
		}
		wantNoCarry(t, f, o, wrong, wrong)
	}
	for _, c := range [][2][]int{
		{{14}, {14}}, {{14, 12}, {12}}, {{12}, {15, 12}}, {{14, 12, 8, 0}, {0}}, {{0}, {14, 12, 8, 0}},
		{{14, 8}, {15, 8}}, {{14, 0}, {12, 8, 0}}, {{15, 12, 8, 0}, {15, 12, 8, 0}},
	} {
		wantNoCarry(t, f, o, c[0], c[1])
	}
	if o.asked != 0 {
		t.Errorf("%d questions where nothing was carried", o.asked)
	}
	wantFamily(t, f)
}

// TestCarryOfOne: beside a row without things the other one stays as it is, and nothing is asked.
func TestCarryOfOne(t *testing.T) {
	f, o := family(t), &least{}
	for _, row := range [][]int{{}, {0}, {15}, {14, 12}, {15, 8, 0}, {15, 12, 8, 0}} {
		wantCarry(t, f, o, row, nil, row...)
		wantCarry(t, f, o, nil, row, row...)
		wantCarry(t, f, o, []int{}, row, row...)
	}
	wantCarry(t, f, o, []int{14, 8}, []int{12, 0}, 14, 12, 8, 0)
	wantCarry(t, f, o, []int{0}, []int{14, 12, 8}, 14, 12, 8, 0)
	if o.asked != 0 {
		t.Errorf("%d questions where nothing was linked", o.asked)
	}
	wantFamily(t, f)
}

// TestCarryOn: one is carried from the least degree to the greatest one.
func TestCarryOn(t *testing.T) {
	for _, turned := range []bool{false, true} {
		f, o := family(t), &least{}
		a, b := []int{15, 12, 8, 0}, []int{14}
		if turned {
			a, b = b, a
		}
		wantCarry(t, f, o, a, b, 0)
		wantThing(t, f, 14, 12, 15)
		wantThing(t, f, 12, 8, 13, 14)
		wantThing(t, f, 8, 0, 9, 10, 12)
		wantThing(t, f, 0, -1, 1, 2, 4, 8)
		if o.asked != 4 {
			t.Errorf("%d questions", o.asked)
		}
	}
}

// TestCarryByOrder: the one that is ahead is above, on whichever side it stands.
func TestCarryByOrder(t *testing.T) {
	for _, c := range []struct{ a, b int }{{0, 1}, {1, 0}} {
		f := fresh(t, 2)
		wantCarry(t, f, &least{}, []int{c.a}, []int{c.b}, 0)
		wantThing(t, f, 0, -1, 1)
		f = fresh(t, 2)
		wantCarry(t, f, greatest{}, []int{c.a}, []int{c.b}, 1)
		wantThing(t, f, 1, -1, 0)
	}
}

// greatest is the Order by which the greater number is ahead.
type greatest struct{}

func (greatest) Ahead(a, b int) bool { return a > b }

// TestAnswersAreNew writes over what was answered, spare room too.
func TestAnswersAreNew(t *testing.T) {
	f, o := family(t), &least{}
	write := func(l []int) {
		l = l[:cap(l)]
		for i := range l {
			l[i] = -7
		}
	}
	kids := f.Kids(0)
	write(f.Kids(0))
	wantList(t, "Kids(0)", kids, 1, 2, 4)
	a, b := []int{14, 8}, []int{12, 0}
	row, _ := f.Carry(o, a, b)
	write(row)
	row, _ = f.Carry(o, a, nil)
	write(row)
	row, _ = f.Carry(o, nil, b)
	write(row)
	wantList(t, "a", a, 14, 8)
	wantList(t, "b", b, 12, 0)
	wantFamily(t, f)
	row, _ = f.Carry(o, []int{15, 12, 8, 0}, []int{14})
	write(row)
	wantThing(t, f, 0, -1, 1, 2, 4, 8)
	off := f.Split(0)
	wantList(t, "Split(2)", f.Split(2), 3)
	wantLink(t, f, 0, 3)
	wantList(t, "Split(0)", off, 1, 2, 4, 8)
	write(off)
	wantThing(t, f, 0, -1, 3)
	wantThing(t, f, 1, -1)
	wantThing(t, f, 4, -1, 5, 6)
	wantThing(t, f, 8, -1, 9, 10, 12)
}

// TestRowsStay: what is handed in isn't changed, spare room too, and isn't kept.
func TestRowsStay(t *testing.T) {
	f, o := family(t), &least{}
	a, b := []int{14, 12, 0, 91, 92, 93}, []int{15, 8, 94, 95, 96}
	row, ok := f.Carry(o, a[:3], b[:2])
	if !ok || len(row) != 1 {
		t.Fatalf("Carry = %v, %v", row, ok)
	}
	f.Row(a[:3]...)
	wantList(t, "a", a, 14, 12, 0, 91, 92, 93)
	wantList(t, "b", b, 15, 8, 94, 95, 96)
	kids := f.Kids(row[0])
	for i := range a {
		a[i] = 5
	}
	for i := range b {
		b[i] = 6
	}
	wantList(t, "Kids", f.Kids(row[0]), kids...)
	wantRow(t, f, true, row...)
}

// TestForestsApart: what is done to one forest is nothing to another one (P2).
func TestForestsApart(t *testing.T) {
	a, b := family(t), family(t)
	wantCarry(t, a, &least{}, []int{15, 12, 8, 0}, []int{14}, 0)
	wantLift(t, a, 7)
	a.Split(0)
	wantFamily(t, b)
}

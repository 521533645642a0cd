package carry

import (
	"math/bits"
	"slices"
	"testing"

	"haycock/api"
	"haycock/sift"
)

// wantDigits asks whether a row's degrees are the places of the ones of a number.
func wantDigits(t *testing.T, f *Forest, row []int, number int) {
	t.Helper()
	wantRow(t, f, true, row...)
	for _, x := range row {
		number -= 1 << f.Degree(x)
	}
	if number != 0 {
		t.Fatalf("the row %v has %d things less than there are", row, number)
	}
}

// TestCount: one thing comes to all others, again and again, up to as many as there can be.
func TestCount(t *testing.T) {
	const n = api.MaxCapacity
	f, o := fresh(t, n), &least{}
	var row []int
	for i := range n {
		before := o.asked
		next, ok := f.Carry(o, row, []int{n - 1 - i})
		if !ok {
			t.Fatalf("%d wasn't carried to %v", n-1-i, row)
		}
		// As many ones become noughts at the number's end.
		if asked := o.asked - before; asked != bits.TrailingZeros(uint(i+1)) {
			t.Fatalf("%d questions at %d", asked, i)
		}
		row = next
		wantDigits(t, f, row, i+1)
	}
	wantList(t, "row", row, 0)
	wantTree(t, f, 0, n)
}

// wantTree asks whether a tree has so many things, each at one place, and each less than those below it.
func wantTree(t *testing.T, f *Forest, top, n int) {
	t.Helper()
	all := []int{top}
	for i := 0; i < len(all); i++ {
		for k, kid := range f.Kids(all[i]) {
			if p, ok := f.Up(kid); !ok || p != all[i] || kid <= p || f.Degree(kid) != k {
				t.Fatalf("%d, of the degree %d, is child %d of %d", kid, f.Degree(kid), k, all[i])
			}
			all = append(all, kid)
		}
	}
	slices.Sort(all)
	if len(slices.Compact(all)) != n {
		t.Fatalf("there are %d things, not %d", len(all), n)
	}
}

// rowOf is a row of so many things, from a first one on.
func rowOf(t *testing.T, f *Forest, first, count int) []int {
	t.Helper()
	var row []int
	for d := 0; count>>d > 0; d++ {
		if count>>d&1 == 1 {
			cube(t, f, first, d)
			row = append(row, first)
			first += 1 << d
		}
	}
	return row
}

// TestSums: the rows of two numbers become that of their sum, and no more is asked than there come to be less roots.
func TestSums(t *testing.T) {
	const most = 40
	for a := range most {
		for b := range most {
			f, o := fresh(t, a+b), &least{}
			x, y := rowOf(t, f, 0, a), rowOf(t, f, a, b)
			row, ok := f.Carry(o, y, x)
			if !ok || o.asked != len(x)+len(y)-len(row) {
				t.Fatalf("Carry(%v, %v) = %v, %v behind %d questions", y, x, row, ok, o.asked)
			}
			wantDigits(t, f, row, a+b)
		}
	}
}

// TestGreatSums: rows as long as they can be, and so great that one is carried to the last degree there is.
func TestGreatSums(t *testing.T) {
	const n = api.MaxCapacity
	for _, c := range [][2]int{
		{n/2 - 1, n/2 - 1}, {n / 2, n / 2}, {n - 1, 1}, {1, n - 1}, {n/2 + 1, n/2 - 1}, {n, 0}, {0, n}, {21845, 43690}, {43690, 21846}, {43691, 21845},
	} {
		f, o := fresh(t, n), &least{}
		x, y := rowOf(t, f, 0, c[0]), rowOf(t, f, c[0], c[1])
		row, ok := f.Carry(o, x, y)
		if !ok || o.asked > len(x)+len(y) {
			t.Fatalf("Carry(%v, %v) = %v, %v behind %d questions", x, y, row, ok, o.asked)
		}
		wantDigits(t, f, row, c[0]+c[1])
	}
}

// TestDeepLift: the lowest thing of the greatest cube goes up to its top, step by step.
func TestDeepLift(t *testing.T) {
	const n = api.MaxCapacity
	f := fresh(t, n)
	cube(t, f, 0, 16)
	wantTree(t, f, 0, n)
	low := n - 1
	for degree := range 16 {
		if f.Degree(low) != degree {
			t.Fatalf("it has %d children, not %d", f.Degree(low), degree)
		}
		wantLift(t, f, low)
	}
	if f.Lift(low) {
		t.Fatal("lifted from the top")
	}
	// Each of those that were above has moved down by one.
	want := []int{}
	for degree := range 15 {
		want = append(want, 1<<degree)
	}
	wantThing(t, f, low, -1, append(want, 0)...)
	wantThing(t, f, n-2, n-4)
	wantThing(t, f, n-4, n-8, n-2)
	wantThing(t, f, n-8, n-16, n-3, n-4)
	wantCubes(t, f, n)
	// All comes off again, and together.
	row := f.Split(low)
	wantDigits(t, f, row, n-1)
	wantRow(t, f, true, low)
	row, ok := f.Carry(&least{}, row, []int{low})
	if !ok || len(row) != 1 {
		t.Fatalf("Carry = %v, %v", row, ok)
	}
	wantDigits(t, f, row, n)
}

// TestNoOrder: where no Order is handed in, rows are carried all the same.
func TestNoOrder(t *testing.T) {
	f := fresh(t, 100)
	var row []int
	for x := range 100 {
		next, ok := f.Carry(nil, row, []int{x})
		if !ok {
			t.Fatalf("%d wasn't carried", x)
		}
		row = next
		wantDigits(t, f, row, x+1)
	}
	wantNoCarry(t, f, nil, row, row)
}

// moody is no order at all: what is asked again may be answered otherwise.
type moody func(n int) int

func (m moody) Ahead(a, b int) bool { return m(2) == 0 }

// TestMoody: an Order that isn't strict is asked no more often, and each thing is somewhere yet.
func TestMoody(t *testing.T) {
	for seed := range uint64(50) {
		roll := roller(seed)
		f := fresh(t, 200)
		o := &asks{Order: moody(roll), t: t}
		var row []int
		for first := 0; first < 200; {
			count := min(1+roll(20), 200-first)
			more := rowOf(t, f, first, count)
			o.roots, o.asked = slices.Concat(row, more), 0
			next, ok := f.Carry(o, row, more)
			if !ok || o.asked > len(o.roots) {
				t.Fatalf("Carry(%v, %v) = %v, %v behind %d questions", row, more, next, ok, o.asked)
			}
			row, first = next, first+count
			wantDigits(t, f, row, first)
		}
	}
}

// meddler is an Order that changes the forest when it is asked.
type meddler struct {
	f    *Forest
	n    int
	roll func(n int) int
}

func (m *meddler) Ahead(a, b int) bool {
	switch m.roll(5) {
	case 0:
		m.f.Split(a)
	case 1:
		m.f.Split(b)
	case 2:
		m.f.Link(a, b)
	case 3:
		m.f.Lift(m.roll(m.n))
	default:
		m.f.Link(m.roll(m.n), m.roll(m.n))
	}
	return m.roll(2) == 0
}

// TestMeddlers: an Order that changes the forest breaks no call, and all things are cubes yet.
func TestMeddlers(t *testing.T) {
	for seed := range uint64(300) {
		roll := roller(seed)
		n := 2 + roll(60)
		f := fresh(t, n)
		var o sift.Order = &meddler{f, n, roll}
		for range 60 {
			a, b := f.Split(roll(n)), f.Split(roll(n))
			if x := roll(n); len(a) == 0 && f.Row(x) {
				a = []int{x}
			}
			if x := roll(n); len(b) == 0 && f.Row(x) {
				b = []int{x}
			}
			f.Carry(o, a, b)
			wantCubes(t, f, n)
		}
	}
}

// wantCubes asks whether all things are cubes, each at one place.
func wantCubes(t *testing.T, f *Forest, n int) {
	t.Helper()
	below := 0
	for x := range n {
		for k, kid := range f.Kids(x) {
			if p, ok := f.Up(kid); !ok || p != x || f.Degree(kid) != k {
				t.Fatalf("%d, below %d, has %d children at place %d", kid, p, f.Degree(kid), k)
			}
			below++
		}
	}
	for x := range n {
		if _, ok := f.Up(x); !ok {
			below++
		}
	}
	if below != n {
		t.Fatalf("%d places of %d things", below, n)
	}
}

func FuzzWays(f *testing.F) {
	f.Add(uint8(8), []byte{0, 0, 1, 0, 2, 3, 3, 0, 2, 2, 1, 0, 1, 0, 0})
	f.Add(uint8(20), []byte{3, 0, 1, 3, 2, 3, 3, 0, 2, 2, 3, 0, 1, 0, 0, 3, 0, 4})
	f.Fuzz(func(t *testing.T, things uint8, way []byte) {
		n := 1 + int(things%32)
		b := newBoth(t, n)
		for i := 0; i+2 < len(way); i += 3 {
			x, y := int(way[i+1])%(n+2)-1, int(way[i+2])%(n+2)-1
			if call := way[i] % 5; call < 3 {
				b.do(change{int(call), x, y})
			} else {
				roll := roller(uint64(way[i+1])<<8 + uint64(way[i+2]))
				b.carry(&least{}, b.someRow(roll), b.someRow(roll))
			}
			b.ask()
		}
	})
}

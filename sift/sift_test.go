package sift

import (
	"slices"
	"testing"

	"haycock/api"
)

// least is the Order by which the lesser number is ahead.
type least struct{ asked int }

func (l *least) Ahead(a, b int) bool {
	l.asked++
	return a < b
}

// fresh is a new row.
func fresh(t *testing.T, d int) *Row {
	t.Helper()
	r, e := New(d)
	if e != api.OK || r == nil {
		t.Fatalf("New(%d) = %v, %d", d, r, e)
	}
	return r
}

// filled is a row with those things, Added so.
func filled(t *testing.T, d int, o Order, things ...int) *Row {
	t.Helper()
	r := fresh(t, d)
	for _, x := range things {
		if !r.Add(o, x) {
			t.Fatalf("d %d: Add(%d) = false", d, x)
		}
	}
	return r
}

// wantThings asks whether just those things are there, each at one place.
func wantThings(t *testing.T, r *Row, want ...int) {
	t.Helper()
	all := r.All()
	if r.Len() != len(want) || len(all) != len(want) {
		t.Fatalf("%d things are there, All has %d, not %d", r.Len(), len(all), len(want))
	}
	for i, x := range all {
		if got, ok := r.At(i); !ok || got != x {
			t.Fatalf("At(%d) = %d, %v, not %d", i, got, ok, x)
		}
		if got, ok := r.Place(x); !ok || got != i {
			t.Fatalf("Place(%d) = %d, %v, not %d", x, got, ok, i)
		}
	}
	for _, i := range append([]int{len(all), len(all) + 1}, farPlaces...) {
		if got, ok := r.At(i); ok || got != 0 {
			t.Fatalf("At(%d) = %d, %v of %d things", i, got, ok, len(all))
		}
	}
	slices.Sort(all)
	want = slices.Clone(want)
	slices.Sort(want)
	if !slices.Equal(all, want) {
		t.Fatalf("there are %v, not %v", all, want)
	}
}

// wantOrder asks whether none is ahead of that above it.
func wantOrder(t *testing.T, r *Row, d int, o Order) {
	t.Helper()
	all := r.All()
	for i, x := range all {
		if p, ok := Parent(d, i); ok && o.Ahead(x, all[p]) {
			t.Fatalf("d %d: %d stands below %d in %v", d, x, all[p], all)
		}
	}
}

// wantNot asks for a thing that isn't there, and whether the calls that answer false ask for nothing and change nothing.
func wantNot(t *testing.T, r *Row, x int) {
	t.Helper()
	before, o := r.All(), &least{}
	if i, ok := r.Place(x); ok || i != 0 {
		t.Errorf("Place(%d) = %d, %v", x, i, ok)
	}
	if r.Remove(o, x) || r.Raise(o, x) || o.asked != 0 {
		t.Errorf("%d, that isn't there, was removed or raised, or %d were asked", x, o.asked)
	}
	if !slices.Equal(before, r.All()) {
		t.Errorf("%v, not %v, behind calls that answered false", r.All(), before)
	}
}

func TestNewOfNone(t *testing.T) {
	for _, d := range wrongDegrees {
		if r, e := New(d); r != nil || e != api.ErrDegree {
			t.Errorf("New(%d) = %v, %d", d, r, e)
		}
	}
}

func TestNew(t *testing.T) {
	for d := 2; d <= 16; d++ {
		r := fresh(t, d)
		wantThings(t, r)
		for _, x := range append([]int{0, 1, 2}, farPlaces...) {
			wantNot(t, r, x)
		}
	}
}

// TestExample is the chapter's.
func TestExample(t *testing.T) {
	if got := filled(t, 2, &least{}, 3, 1, 2).All(); !slices.Equal(got, []int{1, 3, 2}) {
		t.Errorf("All() = %v", got)
	}
}

// TestAddTwice: what is there already isn't Added.
func TestAddTwice(t *testing.T) {
	for d := 2; d <= 16; d++ {
		o := &least{}
		r := filled(t, d, o, 9, 8, 0, 7, -1)
		before, asked := r.All(), o.asked
		for _, x := range before {
			if r.Add(o, x) {
				t.Errorf("%d was Added twice", x)
			}
		}
		if o.asked != asked || !slices.Equal(r.All(), before) {
			t.Errorf("d %d: %v, not %v; %d were asked", d, r.All(), before, o.asked-asked)
		}
		wantThings(t, r, 9, 8, 0, 7, -1)
	}
}

// TestFarThings: things are any numbers.
func TestFarThings(t *testing.T) {
	for d := 2; d <= 16; d++ {
		o := &least{}
		r := fresh(t, d)
		for i, x := range farPlaces {
			wantNot(t, r, x)
			if !r.Add(o, x) {
				t.Fatalf("Add(%d) = false", x)
			}
			wantThings(t, r, farPlaces[:i+1]...)
			wantOrder(t, r, d, o)
		}
		for i, x := range farPlaces {
			if !r.Remove(o, x) {
				t.Fatalf("Remove(%d) = false", x)
			}
			wantThings(t, r, farPlaces[i+1:]...)
			wantOrder(t, r, d, o)
			wantNot(t, r, x)
		}
	}
}

// forOrders calls with each order of the numbers below n.
func forOrders(n int, f func(l []int)) {
	l := make([]int, 0, n)
	var more func()
	more = func() {
		if len(l) == n {
			f(slices.Clone(l))
			return
		}
		for x := range n {
			if !slices.Contains(l, x) {
				l = append(l, x)
				more()
				l = l[:len(l)-1]
			}
		}
	}
	more()
}

// TestAllOrders Adds in all orders, and takes the first ones out.
func TestAllOrders(t *testing.T) {
	for n := range 8 {
		for d := 2; d <= 5; d++ {
			o := &least{}
			forOrders(n, func(l []int) {
				r := fresh(t, d)
				for i, x := range l {
					if !r.Add(o, x) {
						t.Fatalf("d %d: Add(%d) = false", d, x)
					}
					wantThings(t, r, l[:i+1]...)
					wantOrder(t, r, d, o)
				}
				for want := range n {
					if x, ok := r.At(0); !ok || x != want || !r.Remove(o, x) {
						t.Fatalf("d %d: At(0) = %d, %v, not %d", d, x, ok, want)
					}
					wantOrder(t, r, d, o)
				}
				wantThings(t, r)
			})
		}
	}
}

// TestRemoveAnywhere removes each thing of all rows of some: the one from the end comes to belong above, there, or below.
func TestRemoveAnywhere(t *testing.T) {
	for n := range 8 {
		for d := 2; d <= 4; d++ {
			o := &least{}
			forOrders(n, func(l []int) {
				for i, x := range l {
					r := filled(t, d, o, l...)
					if !r.Remove(o, x) {
						t.Fatalf("d %d: Remove(%d) = false of %v", d, x, l)
					}
					wantThings(t, r, slices.Concat(l[:i], l[i+1:])...)
					wantOrder(t, r, d, o)
					wantNot(t, r, x)
				}
			})
		}
	}
}

// TestRemoveLetsUp removes where the one from the end is ahead of what is above.
func TestRemoveLetsUp(t *testing.T) {
	o := &least{}
	r := filled(t, 2, o, 0, 10, 1, 11, 12, 2, 3, 13, 14, 15, 16, 4)
	if !r.Remove(o, 14) {
		t.Fatal("not removed")
	}
	wantOrder(t, r, 2, o)
	wantThings(t, r, 0, 10, 1, 11, 12, 2, 3, 13, 15, 16, 4)
	if p, ok := r.Place(4); !ok || p != 1 {
		t.Errorf("4 is at %d, %v", p, ok)
	}
}

// keyed is the Order by keys, of things below 64; the lesser number is ahead of the same key.
type keyed struct {
	keys  [64]int
	asked int
}

func (k *keyed) Ahead(a, b int) bool {
	k.asked++
	if k.keys[a] == k.keys[b] {
		return a < b
	}
	return k.keys[a] < k.keys[b]
}

// TestRaiseAnywhere changes one key, so that it comes ahead of none, some or all others.
func TestRaiseAnywhere(t *testing.T) {
	for n := range 7 {
		for d := 2; d <= 4; d++ {
			forOrders(n, func(l []int) {
				for x := range n {
					for key := 2*x + 1; key >= -1; key -= 2 {
						o := &keyed{}
						for y := range n {
							o.keys[y] = 2*y + 1
						}
						r := filled(t, d, o, l...)
						o.keys[x] = key - 1
						if !r.Raise(o, x) {
							t.Fatalf("d %d: Raise(%d) = false of %v", d, x, l)
						}
						wantThings(t, r, l...)
						wantOrder(t, r, d, o)
					}
				}
			})
		}
	}
}

// TestRaiseOfNone: nothing is changed by a Raise without need.
func TestRaiseOfNone(t *testing.T) {
	for d := 2; d <= 16; d++ {
		o := &least{}
		r := filled(t, d, o, 5, 4, 3, 9, 8, 7, 1, 2, 6)
		before := r.All()
		for _, x := range before {
			if !r.Raise(o, x) {
				t.Errorf("Raise(%d) = false", x)
			}
		}
		if !slices.Equal(r.All(), before) {
			t.Errorf("%v, not %v", r.All(), before)
		}
		for _, x := range []int{leastInt, -1, 0, 10, 1 << 32, greatestInt} {
			wantNot(t, r, x)
		}
	}
}

// TestAllIsNew writes over what All answered, spare room too.
func TestAllIsNew(t *testing.T) {
	for d := 2; d <= 16; d++ {
		o := &least{}
		r := fresh(t, d)
		for i := range 40 {
			if !r.Add(o, i) {
				t.Fatalf("Add(%d) = false", i)
			}
			if i%5 == 4 && !r.Remove(o, i) {
				t.Fatalf("Remove(%d) = false", i)
			}
			first, second := r.All(), r.All()
			before := slices.Clone(second)
			spare := first[:cap(first)]
			for j := range spare {
				spare[j] = -7
			}
			if !slices.Equal(second, before) || !slices.Equal(r.All(), before) {
				t.Fatalf("%v and %v, not %v", second, r.All(), before)
			}
		}
		wantOrder(t, r, d, o)
	}
}

// TestRowsApart: what is done to one row is nothing to another one (P2).
func TestRowsApart(t *testing.T) {
	o := &least{}
	a, b := filled(t, 2, o, 3, 2, 1), filled(t, 2, o, 1, 2)
	before := b.All()
	if !a.Remove(o, 1) || !a.Add(o, 0) || !a.Remove(o, 3) || !slices.Equal(b.All(), before) {
		t.Errorf("%v, not %v", b.All(), before)
	}
	wantThings(t, a, 0, 2)
	wantNot(t, b, 0)
	wantNot(t, b, 3)
	if !b.Add(o, 3) || !b.Remove(o, 2) {
		t.Error("not Added or removed")
	}
	wantThings(t, a, 0, 2)
	wantThings(t, b, 1, 3)
}

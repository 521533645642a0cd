package ring

import (
	"slices"
	"testing"

	"haycock/api"
)

const (
	leastInt    = -1 << 63
	greatestInt = 1<<63 - 1
)

// farThings are never there; some of them would be in fewer bits.
var farThings = []int{
	leastInt, leastInt + 1, -1 << 62, -1 << 32, -1<<32 + 1, -65537, -65536, -65535, -3, -2, -1,
	65536, 65537, 1 << 17, 1<<31 - 1, 1 << 31, 1 << 32, 1<<32 + 1, 1 << 62, greatestInt - 1, greatestInt,
}

// fresh is new rings.
func fresh(t *testing.T, n int) *Rings {
	t.Helper()
	r, e := New(n)
	if e != api.OK || r == nil {
		t.Fatalf("New(%d) = %v, %d", n, r, e)
	}
	return r
}

// wantIs asks for one thing by another one.
func wantIs(t *testing.T, call string, ask func(int) (int, bool), x, want int, there bool) {
	t.Helper()
	if got, ok := ask(x); got != want || ok != there {
		t.Fatalf("%s(%d) = %d, %v, not %d, %v", call, x, got, ok, want, there)
	}
}

// wantList holds a list against what it should be.
func wantList(t *testing.T, call string, got []int, want ...int) {
	t.Helper()
	if !slices.Equal(got, want) {
		t.Fatalf("%s = %v, not %v", call, got, want)
	}
}

// wantSame asks whether two are in one ring.
func wantSame(t *testing.T, r *Rings, x, y int, want bool) {
	t.Helper()
	if got := r.Same(x, y); got != want {
		t.Fatalf("Same(%d, %d) = %v", x, y, got)
	}
}

// wantSplice splices what is there.
func wantSplice(t *testing.T, r *Rings, x, y int) {
	t.Helper()
	if !r.Splice(x, y) {
		t.Fatalf("Splice(%d, %d) = false", x, y)
	}
}

// wantPart parts what is there.
func wantPart(t *testing.T, r *Rings, x int) {
	t.Helper()
	if !r.Part(x) {
		t.Fatalf("Part(%d) = false", x)
	}
}

// wantRings asks all there is to be told of each thing of these rings, which are written down from whichever thing on.
func wantRings(t *testing.T, r *Rings, rings ...[]int) {
	t.Helper()
	for _, ring := range rings {
		for i, x := range ring {
			turned := slices.Concat(ring[i:], ring[:i])
			wantIs(t, "Next", r.Next, x, slices.Concat(turned, turned)[1], true)
			wantIs(t, "Prev", r.Prev, x, turned[len(turned)-1], true)
			wantList(t, "All", r.All(x), turned...)
		}
	}
	for i, ring := range rings {
		for _, x := range ring {
			for j, other := range rings {
				for _, y := range other {
					wantSame(t, r, x, y, i == j)
				}
			}
		}
	}
}

// wantNone asks in each way for things that aren't there, also beside 0, which should be there.
func wantNone(t *testing.T, r *Rings, things ...int) {
	t.Helper()
	for _, x := range things {
		wantIs(t, "Next", r.Next, x, 0, false)
		wantIs(t, "Prev", r.Prev, x, 0, false)
		wantList(t, "All", r.All(x))
		for _, pair := range [][2]int{{x, x}, {x, 0}, {0, x}} {
			wantSame(t, r, pair[0], pair[1], false)
			if r.Splice(pair[0], pair[1]) {
				t.Fatalf("Splice(%d, %d) = true", pair[0], pair[1])
			}
		}
		if r.Part(x) {
			t.Fatalf("Part(%d) = true", x)
		}
	}
}

func TestNewOfNone(t *testing.T) {
	for _, n := range []int{
		leastInt, leastInt + 1, -1 << 32, -1<<32 + 5, -65536, -2, -1,
		65537, 65538, 1 << 17, 1 << 31, 1 << 32, 1<<32 + 1, 1 << 62, greatestInt - 1, greatestInt,
	} {
		if r, e := New(n); r != nil || e != api.ErrRange {
			t.Errorf("New(%d) = %v, %d", n, r, e)
		}
	}
}

// TestNew: there are all things up to the last one, each in a ring of its own, and no more.
func TestNew(t *testing.T) {
	for _, n := range []int{0, 1, 2, 3, 100, 255, 256, 65535, 65536} {
		r := fresh(t, n)
		for x := range n {
			wantRings(t, r, []int{x})
			wantSame(t, r, x, n-1-x, x == n-1-x)
			wantSame(t, r, x, 0, x == 0)
		}
		wantNone(t, r, n, n+1)
		wantNone(t, r, farThings...)
		if n > 0 {
			wantRings(t, r, []int{0})
		}
	}
}

// TestExample is the chapter's.
func TestExample(t *testing.T) {
	r := fresh(t, 3)
	wantSplice(t, r, 0, 1)
	wantSplice(t, r, 0, 2)
	wantList(t, "All", r.All(0), 0, 2, 1)
	wantPart(t, r, 2)
	wantList(t, "All", r.All(0), 0, 1)
	wantRings(t, r, []int{0, 1}, []int{2})
}

// three is rings of five things, of three, of two, and of one.
func three(t *testing.T) *Rings {
	t.Helper()
	r := fresh(t, 11)
	for _, pair := range [][2]int{{0, 4}, {0, 3}, {0, 2}, {0, 1}, {5, 6}, {6, 7}, {8, 9}} {
		wantSplice(t, r, pair[0], pair[1])
	}
	return r
}

// wantThree asks whether all is as three made it.
func wantThree(t *testing.T, r *Rings) {
	t.Helper()
	wantRings(t, r, []int{0, 1, 2, 3, 4}, []int{5, 6, 7}, []int{8, 9}, []int{10})
}

func TestThree(t *testing.T) {
	wantThree(t, three(t))
}

// TestJoined splices things of two rings: they are in one, and whoever stands first in the call is no matter.
func TestJoined(t *testing.T) {
	for _, c := range []struct {
		why   string
		x, y  int
		rings [][]int
	}{
		{"longer ones", 1, 6, [][]int{{1, 7, 5, 6, 2, 3, 4, 0}, {8, 9}, {10}}},
		{"at their seams", 4, 7, [][]int{{4, 5, 6, 7, 0, 1, 2, 3}, {8, 9}, {10}}},
		{"at 0", 0, 5, [][]int{{0, 6, 7, 5, 1, 2, 3, 4}, {8, 9}, {10}}},
		{"a ring of two", 9, 2, [][]int{{9, 3, 4, 0, 1, 2, 8}, {5, 6, 7}, {10}}},
		{"a thing alone, behind others", 3, 10, [][]int{{3, 10, 4, 0, 1, 2}, {5, 6, 7}, {8, 9}}},
		{"a thing alone, behind one of two", 8, 10, [][]int{{8, 10, 9}, {0, 1, 2, 3, 4}, {5, 6, 7}}},
	} {
		for _, pair := range [][2]int{{c.x, c.y}, {c.y, c.x}} {
			t.Log(c.why, pair)
			r := three(t)
			wantSplice(t, r, pair[0], pair[1])
			wantRings(t, r, c.rings...)
			wantSplice(t, r, pair[0], pair[1])
			wantThree(t, r)
		}
	}
}

// TestSplit splices unlike things of one ring: they are in two.
func TestSplit(t *testing.T) {
	for _, c := range []struct {
		why   string
		x, y  int
		rings [][]int
	}{
		{"in its midst", 1, 3, [][]int{{1, 4, 0}, {2, 3}, {5, 6, 7}, {8, 9}, {10}}},
		{"around 0", 0, 3, [][]int{{0, 4}, {1, 2, 3}, {5, 6, 7}, {8, 9}, {10}}},
		{"neighbours", 2, 3, [][]int{{0, 1, 2, 4}, {3}, {5, 6, 7}, {8, 9}, {10}}},
		{"neighbours at its seam", 4, 0, [][]int{{4, 1, 2, 3}, {0}, {5, 6, 7}, {8, 9}, {10}}},
		{"of three", 7, 5, [][]int{{0, 1, 2, 3, 4}, {7, 6}, {5}, {8, 9}, {10}}},
		{"of two", 8, 9, [][]int{{0, 1, 2, 3, 4}, {5, 6, 7}, {8}, {9}, {10}}},
	} {
		for _, pair := range [][2]int{{c.x, c.y}, {c.y, c.x}} {
			t.Log(c.why, pair)
			r := three(t)
			wantSplice(t, r, pair[0], pair[1])
			wantRings(t, r, c.rings...)
			wantSplice(t, r, pair[0], pair[1])
			wantThree(t, r)
		}
	}
}

// TestSplicedWithItself: what followed a thing follows it, as ahead; and that is true.
func TestSplicedWithItself(t *testing.T) {
	r := three(t)
	for x := range 11 {
		wantSplice(t, r, x, x)
		wantThree(t, r)
	}
}

// TestNotSpliced: what can't be spliced, or parted, changes nothing; each for one reason alone.
func TestNotSpliced(t *testing.T) {
	r := three(t)
	for _, x := range append([]int{11, 12}, farThings...) {
		wantNone(t, r, x)
		for y := range 11 {
			if r.Splice(x, y) || r.Splice(y, x) || r.Same(x, y) || r.Same(y, x) {
				t.Fatalf("%d and %d were spliced, or are in one ring", x, y)
			}
		}
		wantThree(t, r)
	}
}

// TestPart takes things out of rings of five, of three, of two, and of one; what is left keeps its order.
func TestPart(t *testing.T) {
	for _, c := range []struct {
		x     int
		rings [][]int
	}{
		{0, [][]int{{0}, {1, 2, 3, 4}, {5, 6, 7}, {8, 9}, {10}}},
		{2, [][]int{{2}, {0, 1, 3, 4}, {5, 6, 7}, {8, 9}, {10}}},
		{4, [][]int{{4}, {0, 1, 2, 3}, {5, 6, 7}, {8, 9}, {10}}},
		{6, [][]int{{6}, {0, 1, 2, 3, 4}, {5, 7}, {8, 9}, {10}}},
		{8, [][]int{{8}, {0, 1, 2, 3, 4}, {5, 6, 7}, {9}, {10}}},
		{10, [][]int{{10}, {0, 1, 2, 3, 4}, {5, 6, 7}, {8, 9}}},
	} {
		r := three(t)
		for range 3 { // What is alone stays alone, and that is true, too.
			wantPart(t, r, c.x)
			wantRings(t, r, c.rings...)
		}
	}
}

// TestPartedAll takes all out, one behind the other, and puts them together again.
func TestPartedAll(t *testing.T) {
	r := three(t)
	for x := range 11 {
		wantPart(t, r, x)
		wantRings(t, r, []int{x})
	}
	for x := range 11 {
		wantRings(t, r, []int{x})
	}
	for x := range 10 {
		wantSplice(t, r, x, x+1)
	}
	wantRings(t, r, []int{0, 1, 2, 3, 4, 5, 6, 7, 8, 9, 10})
}

// TestAnswersAreNew: a list that was answered may be written over, spare room too, and stays as it is when the rings change.
func TestAnswersAreNew(t *testing.T) {
	for x := range 11 {
		r := three(t)
		first, second := r.All(x), r.All(x)
		kept := slices.Clone(second)
		for i, whole := 0, first[:cap(first)]; i < len(whole); i++ {
			whole[i] = 7
		}
		wantList(t, "the other answer", second, kept...)
		wantThree(t, r)
		_ = append(first, 8, 8, 8)
		wantThree(t, r)
		for y := range 11 {
			wantPart(t, r, y)
		}
		wantList(t, "the other answer", second, kept...)
	}
}

// TestApart: what is done to some rings is nothing to others (P2).
func TestApart(t *testing.T) {
	a, b := three(t), three(t)
	for x := range 11 {
		wantPart(t, b, x)
	}
	wantThree(t, a)
	for x := range 11 {
		wantRings(t, b, []int{x})
	}
}

// TestAnswersStay asks again and again: what only asks changes nothing (P2).
func TestAnswersStay(t *testing.T) {
	r := three(t)
	for range 5 {
		wantThree(t, r)
		wantNone(t, r, farThings...)
	}
}

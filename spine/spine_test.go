package spine

import (
	"slices"
	"testing"

	"haycock/api"
)

const (
	leastInt    = -1 << 63
	greatestInt = 1<<63 - 1
)

// farThings are never there; some of them would be in fewer bits.
var farThings = []int{
	leastInt, leastInt + 1, -1 << 62, -1 << 32, -1<<32 + 1, -65537, -65536, -65535, -3, -2, -1,
	65536, 65537, 1 << 17, 1<<31 - 1, 1 << 31, 1 << 32, 1<<32 + 1, 1 << 62, greatestInt - 1, greatestInt,
}

// fresh is new trees.
func fresh(t *testing.T, n int) *Trees {
	t.Helper()
	x, e := New(n)
	if e != api.OK || x == nil {
		t.Fatalf("New(%d) = %v, %d", n, x, e)
	}
	return x
}

// wantHang hangs what can be hung.
func wantHang(t *testing.T, trees *Trees, p, x int, right bool) {
	t.Helper()
	if !trees.Hang(p, x, right) {
		t.Fatalf("Hang(%d, %d, %v) = false", p, x, right)
	}
}

// wantIs asks for one thing by another one.
func wantIs(t *testing.T, call string, ask func(int) (int, bool), x, want int, there bool) {
	t.Helper()
	if got, ok := ask(x); got != want || ok != there {
		t.Fatalf("%s(%d) = %d, %v, not %d, %v", call, x, got, ok, want, there)
	}
}

// wantNext asks what is next to a thing; -1 stands for none.
func wantNext(t *testing.T, trees *Trees, x, up, left, right int) {
	t.Helper()
	for _, c := range []struct {
		call string
		ask  func(int) (int, bool)
		want int
	}{{"Up", trees.Up, up}, {"Left", trees.Left, left}, {"Right", trees.Right, right}} {
		wantIs(t, c.call, c.ask, x, max(c.want, 0), c.want >= 0)
	}
}

// wantList holds a list against what it should be.
func wantList(t *testing.T, call string, got []int, want ...int) {
	t.Helper()
	if !slices.Equal(got, want) {
		t.Fatalf("%s = %v, not %v", call, got, want)
	}
}

// wantNone asks in each way for things that aren't there.
func wantNone(t *testing.T, trees *Trees, things ...int) {
	t.Helper()
	for _, x := range things {
		wantIs(t, "Up", trees.Up, x, 0, false)
		wantIs(t, "Left", trees.Left, x, 0, false)
		wantIs(t, "Right", trees.Right, x, 0, false)
		wantIs(t, "Root", trees.Root, x, 0, false)
		wantIs(t, "Cut", trees.Cut, x, 0, false)
		wantList(t, "Spine", trees.Spine(x))
		wantList(t, "All", trees.All(x))
		if trees.Turn(x) {
			t.Fatalf("Turn(%d) = true", x)
		}
		for _, right := range []bool{false, true} {
			if trees.Hang(x, x, right) || trees.Hang(x, 0, right) || trees.Hang(0, x, right) {
				t.Fatalf("%d was hung", x)
			}
		}
	}
}

func TestNewOfNone(t *testing.T) {
	for _, n := range []int{
		leastInt, leastInt + 1, -1 << 32, -1<<32 + 5, -65536, -2, -1,
		65537, 65538, 1 << 17, 1 << 31, 1 << 32, 1<<32 + 1, 1 << 62, greatestInt - 1, greatestInt,
	} {
		if trees, e := New(n); trees != nil || e != api.ErrRange {
			t.Errorf("New(%d) = %v, %d", n, trees, e)
		}
	}
}

// TestNew: there are all things up to the last one, none above another one, and no more.
func TestNew(t *testing.T) {
	for _, n := range []int{0, 1, 2, 3, 100, 255, 256, 65535, 65536} {
		trees := fresh(t, n)
		for x := range n {
			wantNext(t, trees, x, -1, -1, -1)
			wantIs(t, "Root", trees.Root, x, x, true)
			wantIs(t, "Cut", trees.Cut, x, 0, false)
			wantList(t, "Spine", trees.Spine(x), x)
			wantList(t, "All", trees.All(x), x)
		}
		wantNone(t, trees, n, n+1)
		wantNone(t, trees, farThings...)
	}
}

// TestExample is the chapter's.
func TestExample(t *testing.T) {
	trees := fresh(t, 3)
	wantHang(t, trees, 0, 1, false)
	wantHang(t, trees, 0, 2, true)
	wantList(t, "All", trees.All(0), 0, 1, 2)
	wantList(t, "Spine", trees.Spine(0), 0, 2)
	if !trees.Turn(0) {
		t.Fatal("not turned")
	}
	wantList(t, "All", trees.All(0), 0, 2, 1)
	wantList(t, "Spine", trees.Spine(0), 0, 1)
	wantNext(t, trees, 0, -1, 2, 1)
	wantNext(t, trees, 1, 0, -1, -1)
	wantNext(t, trees, 2, 0, -1, -1)
}

// family is two trees: 0 above 1 and 2, 1 above 3 at its right, 2 above 4 at its left and 5 at its right; and 6 above 7 at its left. 8 is alone.
func family(t *testing.T) *Trees {
	t.Helper()
	trees := fresh(t, 9)
	wantHang(t, trees, 2, 5, true)
	wantHang(t, trees, 0, 1, false)
	wantHang(t, trees, 1, 3, true)
	wantHang(t, trees, 6, 7, false)
	wantHang(t, trees, 0, 2, true)
	wantHang(t, trees, 2, 4, false)
	return trees
}

// wantFamily asks whether all is as family made it.
func wantFamily(t *testing.T, trees *Trees) {
	t.Helper()
	for x, next := range [][3]int{{-1, 1, 2}, {0, -1, 3}, {0, 4, 5}, {1, -1, -1}, {2, -1, -1}, {2, -1, -1}, {-1, 7, -1}, {6, -1, -1}, {-1, -1, -1}} {
		wantNext(t, trees, x, next[0], next[1], next[2])
	}
	for x, root := range []int{0, 0, 0, 0, 0, 0, 6, 6, 8} {
		wantIs(t, "Root", trees.Root, x, root, true)
	}
	for x, spine := range [][]int{{0, 2, 5}, {1, 3}, {2, 5}, {3}, {4}, {5}, {6}, {7}, {8}} {
		wantList(t, "Spine", trees.Spine(x), spine...)
	}
	for x, all := range [][]int{{0, 1, 3, 2, 4, 5}, {1, 3}, {2, 4, 5}, {3}, {4}, {5}, {6, 7}, {7}, {8}} {
		wantList(t, "All", trees.All(x), all...)
	}
}

func TestFamily(t *testing.T) {
	wantFamily(t, family(t))
}

// TestNotHung: what can't be hung changes nothing; each for one reason alone.
func TestNotHung(t *testing.T) {
	trees := family(t)
	for _, c := range []struct {
		why   string
		p, x  int
		right bool
	}{
		{"itself, on the left", 8, 8, false},
		{"itself, on the right", 8, 8, true},
		{"itself, though one is above it", 7, 7, true},
		{"one is above it: that one", 1, 3, false},
		{"one is above it: that one, on the other side", 6, 7, true},
		{"one is above it: another one", 8, 3, false},
		{"one is above it: another one, 0", 8, 1, true},
		{"there is a left child", 6, 8, false},
		{"there is a left child, and a right one", 0, 8, false},
		{"there is a right child", 1, 8, true},
		{"there is a right child, and a left one", 2, 6, true},
		{"it is there already", 6, 7, false},
		{"no such thing above", 9, 8, false},
		{"no such thing above", -1, 8, true},
		{"no such thing below", 8, 9, true},
		{"no such thing below", 8, -1, false},
	} {
		if trees.Hang(c.p, c.x, c.right) {
			t.Fatalf("Hang(%d, %d, %v) = true: %s", c.p, c.x, c.right, c.why)
		}
		wantFamily(t, trees)
	}
	wantNone(t, trees, 9, 10)
	wantNone(t, trees, farThings...)
	wantFamily(t, trees)
}

// TestHungTree: a thing comes with all that is below it, even the thing 0, and below a leaf.
func TestHungTree(t *testing.T) {
	trees := family(t)
	wantHang(t, trees, 7, 0, true)
	wantHang(t, trees, 8, 6, false)
	wantIs(t, "Root", trees.Root, 5, 8, true)
	wantNext(t, trees, 0, 7, 1, 2)
	wantNext(t, trees, 7, 6, -1, 0)
	wantList(t, "All", trees.All(8), 8, 6, 7, 0, 1, 3, 2, 4, 5)
	wantList(t, "Spine", trees.Spine(7), 7, 0, 2, 5)
	wantList(t, "Spine", trees.Spine(8), 8)
}

// TestCut takes things off, on both sides, with all below them; the child on the other side stays.
func TestCut(t *testing.T) {
	trees := family(t)
	wantIs(t, "Cut", trees.Cut, 2, 0, true)
	wantIs(t, "Cut", trees.Cut, 2, 0, false)
	wantNext(t, trees, 0, -1, 1, -1)
	wantNext(t, trees, 2, -1, 4, 5)
	wantNext(t, trees, 1, 0, -1, 3)
	wantList(t, "All", trees.All(0), 0, 1, 3)
	wantList(t, "All", trees.All(2), 2, 4, 5)
	wantIs(t, "Root", trees.Root, 5, 2, true)
	wantIs(t, "Root", trees.Root, 3, 0, true)
	wantIs(t, "Cut", trees.Cut, 4, 2, true)
	wantNext(t, trees, 2, -1, -1, 5)
	wantNext(t, trees, 4, -1, -1, -1)
	wantIs(t, "Cut", trees.Cut, 3, 1, true)
	wantNext(t, trees, 1, 0, -1, -1)
	for _, x := range []int{0, 2, 3, 4, 6, 8, 9, -1} {
		wantIs(t, "Cut", trees.Cut, x, 0, false)
	}
	wantHang(t, trees, 2, 0, false)
	wantHang(t, trees, 1, 4, true)
	wantList(t, "All", trees.All(2), 2, 0, 1, 4, 5)
}

// TestNotCut: what can't be cut, or turned, changes nothing.
func TestNotCut(t *testing.T) {
	trees := family(t)
	for _, x := range append([]int{0, 6, 8, 9, 10}, farThings...) {
		wantIs(t, "Cut", trees.Cut, x, 0, false)
	}
	for _, p := range append([]int{9, 10}, farThings...) {
		if trees.Turn(p) {
			t.Fatalf("Turn(%d) = true", p)
		}
	}
	wantFamily(t, trees)
}

// TestTurn: two children, one, none; those below the children stay as they are; twice is as if not at all.
func TestTurn(t *testing.T) {
	trees := family(t)
	for x := range 9 {
		if !trees.Turn(x) || !trees.Turn(x) {
			t.Fatalf("Turn(%d) = false", x)
		}
		wantFamily(t, trees)
	}
	for _, x := range []int{0, 1, 8} {
		if !trees.Turn(x) {
			t.Fatalf("Turn(%d) = false", x)
		}
	}
	for x, next := range [][3]int{{-1, 2, 1}, {0, 3, -1}, {0, 4, 5}, {1, -1, -1}} {
		wantNext(t, trees, x, next[0], next[1], next[2])
	}
	wantNext(t, trees, 8, -1, -1, -1)
	wantList(t, "All", trees.All(0), 0, 2, 4, 5, 1, 3)
	wantList(t, "Spine", trees.Spine(0), 0, 1)
	// What changed sides comes off, and its place is free for others.
	wantHang(t, trees, 1, 6, true)
	wantIs(t, "Cut", trees.Cut, 3, 1, true)
	wantNext(t, trees, 1, 0, -1, 6)
	wantHang(t, trees, 1, 8, false)
	wantList(t, "All", trees.All(0), 0, 2, 4, 5, 1, 8, 6, 7)
}

// TestAnswersAreNew: a list that was answered may be written over, spare room too, and stays as it is when the trees change.
func TestAnswersAreNew(t *testing.T) {
	trees := family(t)
	for _, ask := range []func(int) []int{trees.Spine, trees.All} {
		first, second := ask(0), ask(0)
		kept := slices.Clone(second)
		for i, whole := 0, first[:cap(first)]; i < len(whole); i++ {
			whole[i] = 7
		}
		wantList(t, "the other answer", second, kept...)
		wantFamily(t, trees)
		_ = append(first, 8, 8, 8)
		wantFamily(t, trees)
		trees.Turn(0)
		wantList(t, "the other answer", second, kept...)
		trees.Turn(0)
	}
}

// TestApart: what is done to some trees is nothing to others (P2).
func TestApart(t *testing.T) {
	a, b := family(t), family(t)
	for x := range 9 {
		b.Cut(x)
		b.Turn(x)
	}
	wantFamily(t, a)
	for x := range 9 {
		wantNext(t, b, x, -1, -1, -1)
	}
}

// TestAnswersStay asks again and again: what only asks changes nothing (P2).
func TestAnswersStay(t *testing.T) {
	trees := family(t)
	for range 5 {
		wantFamily(t, trees)
		wantNone(t, trees, farThings...)
	}
}

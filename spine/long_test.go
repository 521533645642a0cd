package spine

import (
	"testing"

	"haycock/api"
)

// straight is a way of as many things as there can be, of which each hangs below the one ahead; on which side, the test tells.
func straight(t *testing.T, right func(x int) bool, upwards bool) *Trees {
	t.Helper()
	const n = api.MaxCapacity
	trees := fresh(t, n)
	for i := 1; i < n; i++ {
		x := i
		if upwards {
			x = n - i
		}
		wantHang(t, trees, x-1, x, right(x))
	}
	return trees
}

// wantRising asks whether a list is so many numbers, the first one first, and each one more than the one ahead.
func wantRising(t *testing.T, call string, list []int, first, count int) {
	t.Helper()
	if len(list) != count {
		t.Fatalf("%s has %d things, not %d", call, len(list), count)
	}
	for i, x := range list {
		if x != first+i {
			t.Fatalf("%s has %d at place %d, not %d", call, x, i, first+i)
		}
	}
}

// TestStraight: trees as deep as they can be, to the left, to the right, and in turns, hung from their top or from their end.
func TestStraight(t *testing.T) {
	const n = api.MaxCapacity
	for _, upwards := range []bool{false, true} {
		for side, right := range []func(x int) bool{
			func(x int) bool { return false },
			func(x int) bool { return true },
			func(x int) bool { return x%2 == 0 },
		} {
			trees := straight(t, right, upwards)
			for _, x := range []int{0, 1, n / 2, n - 2, n - 1} {
				wantIs(t, "Root", trees.Root, x, 0, true)
				wantRising(t, "All", trees.All(x), x, n-x)
				spine := 1
				switch {
				case side == 1:
					spine = n - x
				case side == 2 && x%2 == 1 && x < n-1:
					spine = 2
				}
				wantRising(t, "Spine", trees.Spine(x), x, spine)
			}
			const half = n / 2
			wantIs(t, "Cut", trees.Cut, half, half-1, true)
			wantRising(t, "All", trees.All(0), 0, half)
			wantRising(t, "All", trees.All(half), half, half)
			wantIs(t, "Root", trees.Root, n-1, half, true)
			wantIs(t, "Root", trees.Root, half-1, 0, true)
			wantHang(t, trees, n-1, 0, true)
			wantIs(t, "Root", trees.Root, half-1, half, true)
			if all := trees.All(half); len(all) != n || all[half] != 0 {
				t.Fatalf("All has %d things", len(all))
			}
		}
	}
}

// TestTurnedWay turns all of a way to the left: it is one to the right.
func TestTurnedWay(t *testing.T) {
	const n = api.MaxCapacity
	trees := straight(t, func(x int) bool { return false }, false)
	for x := range n {
		if !trees.Turn(x) {
			t.Fatalf("Turn(%d) = false", x)
		}
	}
	wantRising(t, "Spine", trees.Spine(0), 0, n)
	wantRising(t, "All", trees.All(0), 0, n)
}

// TestFull: a tree whose things have two children each, numbered level by level.
func TestFull(t *testing.T) {
	const n = 1<<16 - 1
	trees := fresh(t, n)
	for x := 1; x < n; x++ {
		wantHang(t, trees, (x-1)/2, x, x%2 == 0)
	}
	all := trees.All(0)
	if len(all) != n {
		t.Fatalf("All has %d things", len(all))
	}
	// Of a full tree of so many things, half of those below are at the left.
	var want func(x, from, count int)
	want = func(x, from, count int) {
		if all[from] != x {
			t.Fatalf("%d stands at place %d, not %d", all[from], from, x)
		}
		if count > 1 {
			want(2*x+1, from+1, count/2)
			want(2*x+2, from+1+count/2, count/2)
		}
	}
	want(0, 0, n)
	spine := trees.Spine(0)
	if len(spine) != 16 {
		t.Fatalf("Spine has %d things", len(spine))
	}
	for i, x := range spine {
		if x != 1<<(i+1)-2 {
			t.Errorf("Spine has %d at place %d", x, i)
		}
	}
	for _, x := range []int{0, 1, 2, n / 2, n - 1} {
		wantIs(t, "Root", trees.Root, x, 0, true)
	}
}

// TestRingsEnd: where a thing was hung below one that is below it, nothing is promised but that each call ends, and none panics (P1).
func TestRingsEnd(t *testing.T) {
	for n := 2; n <= 9; n++ {
		for seed := range uint64(40) {
			roll := roller(seed)
			trees := fresh(t, n)
			for range 60 {
				if roll(6) == 0 {
					trees.Cut(roll(n))
				}
				trees.Turn(roll(n))
				trees.Hang(roll(n), roll(n), roll(2) == 0)
				for x := range n {
					trees.Root(x)
					trees.Spine(x)
					trees.All(x)
				}
			}
		}
	}
}

// TestLongRingEnds: likewise of a ring of as many things as there can be.
func TestLongRingEnds(t *testing.T) {
	const n = api.MaxCapacity
	for _, side := range []bool{false, true} {
		trees := straight(t, func(x int) bool { return side }, false)
		trees.Hang(n-1, 0, side)
		for _, x := range []int{0, 1, n - 1} {
			trees.Root(x)
			trees.Spine(x)
			trees.All(x)
		}
	}
}

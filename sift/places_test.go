package sift

import "testing"

const (
	leastInt    = -1 << 63
	greatestInt = 1<<63 - 1
)

// wrongDegrees are those of no row; some of them would be right in fewer bits.
var wrongDegrees = []int{
	leastInt, leastInt + 2, -1 << 32, -1<<32 + 2, -16, -2, -1, 0, 1,
	17, 18, 32, 256, 258, 1<<16 + 2, 1 << 32, 1<<32 + 2, 1<<32 + 16, greatestInt - 1, greatestInt,
}

// farPlaces are in no row there is.
var farPlaces = []int{
	leastInt, leastInt + 1, -1 << 40, -1 << 32, -1<<32 + 1, -2, -1,
	1 << 31, 1 << 32, 1<<32 + 1, 1 << 40, 1<<40 + 1, 1 << 62, greatestInt - 1, greatestInt,
}

// wantParent asks for the place above one.
func wantParent(t *testing.T, d, i, want int, wantOK bool) {
	t.Helper()
	if p, ok := Parent(d, i); p != want || ok != wantOK {
		t.Errorf("Parent(%d, %d) = %d, %v, not %d, %v", d, i, p, ok, want, wantOK)
	}
}

// wantChild asks for a place below one.
func wantChild(t *testing.T, d, i, k, want int, wantOK bool) {
	t.Helper()
	if c, ok := Child(d, i, k); c != want || ok != wantOK {
		t.Errorf("Child(%d, %d, %d) = %d, %v, not %d, %v", d, i, k, c, ok, want, wantOK)
	}
}

// wantDepth asks how deep so many places are.
func wantDepth(t *testing.T, d, n, want int) {
	t.Helper()
	if got := Depth(d, n); got != want {
		t.Errorf("Depth(%d, %d) = %d, not %d", d, n, got, want)
	}
}

// TestPlacesInOrder goes through the places as they are filled: d children of each, one behind the other.
func TestPlacesInOrder(t *testing.T) {
	for d := 2; d <= 16; d++ {
		depths := []int{0}
		wantParent(t, d, 0, 0, false)
		for i := 0; len(depths) < 3000; i++ {
			for k := 1; k <= d; k++ {
				c := len(depths)
				wantChild(t, d, i, k, c, true)
				wantParent(t, d, c, i, true)
				depths = append(depths, depths[i]+1)
			}
		}
		wantDepth(t, d, 0, 0)
		for i, depth := range depths {
			wantDepth(t, d, i+1, depth)
		}
	}
}

func TestParentOfFarPlaces(t *testing.T) {
	for d := 2; d <= 16; d++ {
		for _, i := range []int{leastInt, leastInt + 1, -1 << 40, -17, -16, -3, -2, -1, 0} {
			wantParent(t, d, i, 0, false)
		}
		// A place from 1 on has a Parent, however far it is.
		for _, i := range []int{1 << 31, 1 << 32, 1<<32 + 1, 1 << 40, 1<<40 + 1, 1<<40 + 2, 1 << 44, 1 << 62, greatestInt - 1, greatestInt} {
			wantParent(t, d, i, (i-1)/d, true)
		}
	}
}

func TestChildOfFarPlaces(t *testing.T) {
	const far = 1 << 40
	for d := 2; d <= 16; d++ {
		for k := 1; k <= d; k++ {
			for _, i := range []int{1 << 31, 1 << 32, 1<<32 + 1, far - 1, far} {
				wantChild(t, d, i, k, d*i+k, true)
			}
			for _, i := range []int{leastInt, leastInt + 1, -far, -1, far + 1, far + 2, 1 << 41, 1 << 60, 1 << 62, greatestInt} {
				wantChild(t, d, i, k, 0, false)
			}
		}
		for _, k := range []int{leastInt, leastInt + 1, -1<<32 + 1, -d, -1, 0, d + 1, d + 2, 1<<32 + 1, greatestInt} {
			for _, i := range []int{-1, 0, 1, 5, far, far + 1} {
				wantChild(t, d, i, k, 0, false)
			}
		}
	}
}

// TestDepthOfMany asks near to where each depth begins: a row that is full down to one has d places there for each above.
func TestDepthOfMany(t *testing.T) {
	for d := 2; d <= 16; d++ {
		full, width := 1, 1
		for depth := 0; full <= 1<<40; depth++ {
			wantDepth(t, d, full, depth)
			if full < 1<<40 {
				wantDepth(t, d, full+1, depth+1)
			}
			width *= d
			full += width
		}
	}
	wantDepth(t, 2, 1<<40-1, 39)
	wantDepth(t, 2, 1<<40, 40)
	wantDepth(t, 16, 1<<40, 10)
}

func TestDepthOfNone(t *testing.T) {
	for d := 2; d <= 16; d++ {
		for _, n := range []int{leastInt, leastInt + 1, -1 << 40, -1 << 32, -2, -1, 0, 1, 1<<40 + 1, 1<<40 + 2, 1 << 41, 1 << 62, greatestInt - 1, greatestInt} {
			wantDepth(t, d, n, 0)
		}
	}
}

func TestPlacesOfWrongDegrees(t *testing.T) {
	for _, d := range wrongDegrees {
		for _, i := range append([]int{0, 1, 2, 5, 16, 17, 1000}, farPlaces...) {
			wantParent(t, d, i, 0, false)
			wantDepth(t, d, i, 0)
			for _, k := range []int{leastInt, -1, 0, 1, 2, 16, 17, d} {
				wantChild(t, d, i, k, 0, false)
			}
		}
	}
}

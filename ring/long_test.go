package ring

import (
	"testing"

	"haycock/api"
)

// wantRising asks whether a list is so many numbers, the first one first, and each one by a step more than the one ahead.
func wantRising(t *testing.T, call string, list []int, first, step, count int) {
	t.Helper()
	if len(list) != count {
		t.Fatalf("%s has %d things, not %d", call, len(list), count)
	}
	for i, x := range list {
		if x != first+i*step {
			t.Fatalf("%s has %d at place %d, not %d", call, x, i, first+i*step)
		}
	}
}

// longest is a ring of as many things as there can be, in their order.
func longest(t *testing.T) *Rings {
	t.Helper()
	r := fresh(t, api.MaxCapacity)
	for x := range api.MaxCapacity - 1 {
		wantSplice(t, r, x, x+1)
	}
	return r
}

// TestLongest: a ring of as many things as there can be, as it is, split into two, and joined again.
func TestLongest(t *testing.T) {
	const last, half = api.MaxCapacity - 1, api.MaxCapacity / 2
	r := longest(t)
	wantRising(t, "All", r.All(0), 0, 1, last+1)
	wantIs(t, "Next", r.Next, last, 0, true)
	wantIs(t, "Prev", r.Prev, 0, last, true)
	wantSame(t, r, 0, last, true)
	wantSame(t, r, last, last-1, true)
	wantNone(t, r, farThings...)
	wantSplice(t, r, last, half-1)
	wantRising(t, "All", r.All(0), 0, 1, half)
	wantRising(t, "All", r.All(half), half, 1, half)
	wantSame(t, r, half-1, half, false)
	wantSame(t, r, last, 0, false)
	wantSplice(t, r, half-1, last)
	wantRising(t, "All", r.All(0), 0, 1, last+1)
}

// TestLongestParted takes each second thing out of a ring of as many things as there can be.
func TestLongestParted(t *testing.T) {
	const n = api.MaxCapacity
	r := longest(t)
	for x := 1; x < n; x += 2 {
		wantPart(t, r, x)
	}
	wantRising(t, "All", r.All(0), 0, 2, n/2)
	wantSame(t, r, 0, n-2, true)
	for x := 1; x < n; x += 2 {
		wantRings(t, r, []int{x})
	}
	wantSame(t, r, 0, n-1, false)
	wantSame(t, r, n-1, 0, false)
}

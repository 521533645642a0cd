package dary

import (
	"testing"

	"haycock/api"
	"haycock/sift"
)

// plainOrder tells which thing is ahead by its key, and how often it was asked.
type plainOrder struct {
	keys  []int64
	asked int
}

func (o *plainOrder) Ahead(a, b int) bool {
	o.asked++
	if o.keys[a] == o.keys[b] {
		return a < b
	}
	return o.keys[a] < o.keys[b]
}

// TestSteps: one is counted for each question which of two slots is ahead.
func TestSteps(t *testing.T) {
	n := fresh(t, 3, 2, 1)
	fill(t, n, 1, 0, 2)
	if n.Steps() != 0 {
		t.Errorf("%d steps, though there was one slot alone", n.Steps())
	}
	fill(t, n, 1, 1, 1)
	if n.Steps() != 1 {
		t.Errorf("%d steps for two slots", n.Steps())
	}
}

// TestStepsOfTheRow: of a row of its own, with as many children each and of the same keys, layer 7 asks as often.
func TestStepsOfTheRow(t *testing.T) {
	const count = 500
	forDegrees(t, func(t *testing.T, d int) {
		n := fresh(t, count, d, 1)
		own, e := sift.New(d)
		if e != api.OK {
			t.Fatal(e)
		}
		o := &plainOrder{keys: mixed(count)}
		same := func(what string) {
			t.Helper()
			if n.Steps() != o.asked {
				t.Fatalf("%s: %d steps, where the row asks %d times", what, n.Steps(), o.asked)
			}
		}
		for slot, k := range o.keys {
			fill(t, n, 1, slot, k)
			own.Add(o, slot)
			same("Insert")
		}
		for i := range count / 2 {
			slot := i * 7 % count
			o.keys[slot] -= int64(i % 40)
			if !n.Decrease(slot, api.Entry{Key: o.keys[slot]}) || !own.Raise(o, slot) {
				t.Fatalf("%d was not decreased", slot)
			}
			same("Decrease")
		}
		for i := range count / 4 {
			slot := i * 11 % count
			if !n.Delete(slot) || !own.Remove(o, slot) {
				t.Fatalf("%d was not deleted", slot)
			}
			same("Delete")
		}
		for own.Len() > 0 {
			slot, _ := own.At(0)
			if got, ok := n.Extract(1); !ok || got != slot || !own.Remove(o, slot) {
				t.Fatalf("Extract(1) = %d, %v, not %d", got, ok, slot)
			}
			same("Extract")
		}
	})
}

// TestStepsOfFalse: a call that answers false takes no steps, whatever is in the heaps.
func TestStepsOfFalse(t *testing.T) {
	forDegrees(t, func(t *testing.T, d int) {
		n := fresh(t, 302, d, 4)
		fill(t, n, 1, 0, mixed(200)...)
		fill(t, n, 2, 200, mixed(100)...)
		if !n.Meld(3, 4) {
			t.Fatal("not melded")
		}
		wantFalse := func(what string, done bool) {
			t.Helper()
			if done {
				t.Errorf("%s = true", what)
			}
		}
		within(t, n, 0, func() bool {
			for _, slot := range []int{-1, 300, 301, 302} {
				wantFalse("Delete", n.Delete(slot))
				wantFalse("Decrease", n.Decrease(slot, api.Entry{Key: -9}))
			}
			for _, h := range []int{-1, 0, 4, 5} {
				_, first := n.Min(h)
				_, out := n.Extract(h)
				wantFalse("Min", first)
				wantFalse("Extract", out)
				wantFalse("Insert", n.Insert(h, 300, api.Entry{}))
				wantFalse("Meld", n.Meld(1, h) || n.Meld(h, 2) || n.Meld(h, h))
			}
			_, out := n.Extract(3)
			wantFalse("Extract", out)
			wantFalse("Insert", n.Insert(1, 5, api.Entry{}) || n.Insert(1, -1, api.Entry{}) || n.Insert(1, 302, api.Entry{}))
			wantFalse("Decrease", n.Decrease(5, api.Entry{Key: 100}))
			wantFalse("Meld", n.Meld(1, 1))
			return true
		})
		if n.Len(1) != 200 || n.Len(2) != 100 || n.Len(3) != 0 || n.Make() != 5 {
			t.Error("something was changed")
		}
	})
}

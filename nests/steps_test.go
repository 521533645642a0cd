package nests

import (
	"slices"
	"strconv"
	"testing"
)

// most is the greatest capacity, and how many heaps there may be.
const most = 65536

// filled is a nest whose slots are all in one heap, by the keys that are told of them.
func filled(t *testing.T, k kind, capacity int, keyOf func(slot int) int64) *pair {
	t.Helper()
	x := newPair(t, k, capacity, 1)
	for slot := range capacity {
		x.insert(1, slot, key(keyOf(slot)))
	}
	return x
}

// orders are ways in which keys may come.
func orders(n int) map[string]func(slot int) int64 {
	mixed := shuffled(n, roller(uint64(n)))
	return map[string]func(slot int) int64{
		"rising":  func(slot int) int64 { return int64(slot) },
		"falling": func(slot int) int64 { return int64(-slot) },
		"same":    func(int) int64 { return 3 },
		"few":     func(slot int) int64 { return int64(slot * 7919 % 5) },
		"swung":   func(slot int) int64 { return int64(slot) * int64(1-2*(slot%2)) },
		"mixed":   func(slot int) int64 { return int64(mixed[slot]) },
	}
}

// forOrders runs a test by each order of keys, on heaps of sizes about powers of two, and the greatest one.
func forOrders(t *testing.T, test func(t *testing.T, k kind, n int, keyOf func(slot int) int64)) {
	t.Helper()
	forFew(t, func(t *testing.T, k kind) {
		for _, n := range []int{1, 2, 3, 4, 5, 7, 8, 9, 15, 16, 17, 31, 32, 33, 255, 256, 257, 1000, most} {
			for name, keyOf := range orders(n) {
				t.Run(name+" "+strconv.Itoa(n), func(t *testing.T) { test(t, k, n, keyOf) })
			}
		}
	})
}

// TestStepsOut: whatever comes in comes out in order, and no call takes more steps than it may.
func TestStepsOut(t *testing.T) {
	forOrders(t, func(t *testing.T, k kind, n int, keyOf func(slot int) int64) {
		x := filled(t, k, n, keyOf)
		x.drain(1)
	})
}

// TestStepsDelete deletes half of the slots, wherever they are, ahead of taking the rest out.
func TestStepsDelete(t *testing.T) {
	forOrders(t, func(t *testing.T, k kind, n int, keyOf func(slot int) int64) {
		x := filled(t, k, n, keyOf)
		for _, slot := range shuffled(n, roller(5))[:n/2] {
			x.delete(slot)
		}
		x.drain(1)
	})
}

// TestStepsDeleteLast deletes, from the last one on, what would come out last.
func TestStepsDeleteLast(t *testing.T) {
	forOrders(t, func(t *testing.T, k kind, n int, keyOf func(slot int) int64) {
		x := filled(t, k, n, keyOf)
		for _, slot := range slices.Backward(x.p.order(1)) {
			x.delete(slot)
		}
		x.drain(1)
	})
}

// TestStepsDecrease decreases slots to what is ahead of all others, to what they have, and to what changes little.
func TestStepsDecrease(t *testing.T) {
	forOrders(t, func(t *testing.T, k kind, n int, keyOf func(slot int) int64) {
		x := filled(t, k, n, keyOf)
		for i, slot := range shuffled(n, roller(6)) {
			now := x.p.entries[slot].Key
			x.decrease(slot, key(now))
			switch i % 3 {
			case 0:
				x.decrease(slot, key(int64(-2*most-i)))
			case 1:
				x.decrease(slot, key(now-2))
			default:
				x.decrease(slot, key(now/2))
			}
		}
		x.drain(1)
	})
}

// halves is a nest with two heaps: so many slots in the first one, the others in the second one.
func halves(t *testing.T, k kind, first, second int, keyOf func(slot int) int64) *pair {
	t.Helper()
	x := newPair(t, k, first+second, 2)
	for slot := range first + second {
		h := 1
		if slot >= first {
			h = 2
		}
		x.insert(h, slot, key(keyOf(slot)))
	}
	return x
}

// TestStepsMeld melds heaps of unlike sizes, the lesser one into the greater one and the other way round.
func TestStepsMeld(t *testing.T) {
	sizes := []int{0, 1, 2, 3, 7, 8, 64, 100, 1000, 5000}
	forFew(t, func(t *testing.T, k kind) {
		for _, a := range sizes {
			for _, b := range sizes {
				for _, keyOf := range orders(a + b) {
					x := halves(t, k, a, b, keyOf)
					x.meld(2, 1)
					x.drain(2)
				}
			}
		}
	})
}

// TestMeldAll melds all heaps there can be, one behind the other, each with a slot in it: into the one that grows, and the
// one that grows into each. What is moved is few enough that it ends soon.
func TestMeldAll(t *testing.T) {
	forEach(t, func(t *testing.T, k kind) {
		for name, meld := range map[string]func(n calls, all, one int) (int, bool){
			"into all": func(n calls, all, one int) (int, bool) { return all, n.Meld(all, one) },
			"into one": func(n calls, all, one int) (int, bool) { return one, n.Meld(one, all) },
		} {
			t.Run(name, func(t *testing.T) { meldAll(t, k, meld) })
		}
	})
}

func meldAll(t *testing.T, k kind, meld func(n calls, all, one int) (int, bool)) {
	n, _ := k.open(most)
	for slot := range most {
		if h := n.Make(); !n.Insert(h, slot, key(int64(-slot))) {
			t.Fatal(slot)
		}
	}
	all, ok := 1, false
	for one := 2; one <= most; one++ {
		steps := n.Steps()
		if all, ok = meld(n, all, one); !ok || n.Len(all) != one {
			t.Fatal(one, n.Len(all))
		}
		if took := n.Steps() - steps; took > k.meld(one-1, 1) {
			t.Fatalf("Meld of %d slots and one took %d steps", one-1, took)
		}
		k.wantWhole(t, n, 2*most+one-1)
	}
	for slot := most - 1; slot >= 0; slot-- {
		if got, ok := n.Extract(all); !ok || got != slot {
			t.Fatalf("Extract(%d) = %d, %v, not %d", all, got, ok, slot)
		}
		k.wantWhole(t, n, 4*most-1-slot)
	}
}

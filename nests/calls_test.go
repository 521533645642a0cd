package nests

import (
	"testing"

	"haycock/api"
)

func TestNewOfNone(t *testing.T) {
	forEach(t, func(t *testing.T, k kind) {
		for _, capacity := range farNumbers {
			if n, e := k.open(capacity); n != nil || e != api.ErrRange {
				t.Errorf("New(%d) = %v, %d", capacity, n, e)
			}
		}
	})
}

// TestNew: there are no heaps, no slot is in one, and no step was taken.
func TestNew(t *testing.T) {
	forEach(t, func(t *testing.T, k kind) {
		for _, capacity := range []int{0, 1, 2, 3, 100, 255, 256, 65535, 65536} {
			x := newPair(t, k, capacity, 0)
			if got := x.n.Capacity(); got != capacity {
				t.Errorf("Capacity() = %d, not %d", got, capacity)
			}
			if got := x.n.Steps(); got != 0 {
				t.Errorf("New(%d) took %d steps", capacity, got)
			}
			for _, h := range append([]int{0, 1, 2, 65535, 65536}, farNumbers...) {
				x.wantNoHeap(h, 1, 0)
			}
			for _, slot := range append([]int{0, 1, capacity - 1, capacity}, farNumbers...) {
				x.wantOut(slot)
			}
			x.make()
		}
	})
}

// wantNoHeap does to a heap that isn't there what can be done to heaps, and asks for nothing.
func (x *pair) wantNoHeap(h, other, slot int) {
	x.t.Helper()
	if x.p.hasHeap(h) {
		x.t.Fatalf("there is a heap %d", h)
	}
	x.askHeap(h)
	x.min(h)
	x.extract(h)
	x.insert(h, slot, key(1))
	x.askSlot(slot)
	x.meld(h, other)
	x.meld(other, h)
	x.meld(h, h)
	x.askHeap(other)
}

// wantOut does to a slot that is in no heap what can be done to those that are in one.
func (x *pair) wantOut(slot int) {
	x.t.Helper()
	if x.p.in(slot) {
		x.t.Fatalf("the slot %d is in a heap", slot)
	}
	x.askSlot(slot)
	x.decrease(slot, key(leastInt))
	x.delete(slot)
	x.askSlot(slot)
}

// TestMake goes to the end of what may be made, and beyond: what is melded makes no room.
func TestMake(t *testing.T) {
	forEach(t, func(t *testing.T, k kind) {
		x := newPair(t, k, 2, 0)
		for i := range 65536 {
			x.make()
			x.askHeap(i + 1)
			x.askHeap(i + 2)
			if i == 1000 {
				x.meld(3, 1001)
			}
		}
		x.make()
		x.meld(65536, 1)
		x.make()
		x.insert(65536, 1, key(5))
		x.insert(65535, 0, key(4))
		x.meld(65535, 65536)
		for _, h := range []int{65537, 65536, 1001, 1, 0} {
			x.wantNoHeap(h, 65535, 0)
		}
		x.make()
		x.drain(65535)
		x.make()
	})
}

// TestWithoutSlots: there may be heaps, though nothing can come into them.
func TestWithoutSlots(t *testing.T) {
	forEach(t, func(t *testing.T, k kind) {
		x := newPair(t, k, 0, 3)
		for h := range 4 {
			x.insert(h, 0, key(1))
			x.extract(h)
		}
		x.meld(1, 3)
		x.make()
		x.ask()
	})
}

// TestWrong does what can't be done, upon heaps with something in them.
func TestWrong(t *testing.T) {
	forEach(t, func(t *testing.T, k kind) {
		x := newPair(t, k, 6, 4)
		for slot, e := range []int64{3, 1, 4, 1} {
			x.insert(1+slot%2, slot, key(e))
		}
		x.meld(2, 4)
		for _, h := range append([]int{0, 4, 5, 6}, farNumbers...) {
			x.wantNoHeap(h, 1, 5)
			x.wantNoHeap(h, 3, 5)
			x.wantNoHeap(h, 2, 0)
		}
		for _, slot := range append([]int{4, 5, 6, 7, 65535, 65536}, farNumbers...) {
			x.wantOut(slot)
			if slot != 4 && slot != 5 {
				x.insert(1, slot, key(-9))
				x.askSlot(slot)
			}
		}
		for slot := range 4 {
			for h := range 6 {
				x.insert(h, slot, key(-9))
			}
			x.decrease(slot, key(5))
			x.decrease(slot, key(greatestInt))
			x.decrease(slot, api.Entry{Key: x.p.entries[slot].Key, Seq: 1})
			x.askSlot(slot)
		}
		x.meld(1, 1)
		x.meld(2, 2)
		x.meld(3, 3)
		x.ask()
		x.drainAll()
	})
}

// TestAllEntries puts in entries at all edges, rising, falling and mixed; they come out rising.
func TestAllEntries(t *testing.T) {
	most := len(risingEntries)
	rising, falling := make([]int, most), make([]int, most)
	for i := range most {
		rising[i], falling[i] = i, most-1-i
	}
	forEach(t, func(t *testing.T, k kind) {
		for _, order := range [][]int{rising, falling, shuffled(most, roller(1)), shuffled(most, roller(2))} {
			x := newPair(t, k, most, 1)
			for slot, i := range order {
				x.insert(1, slot, risingEntries[i])
				x.askSlot(slot)
			}
			for range order {
				x.min(1)
				x.extract(1)
			}
			x.extract(1)
			for _, slot := range order {
				x.wantOut(slot)
			}
		}
	})
}

// TestDecreaseToAll decreases each entry at the edges to each other one, and to itself: a slot ahead, and one behind it.
func TestDecreaseToAll(t *testing.T) {
	forEach(t, func(t *testing.T, k kind) {
		for _, a := range risingEntries {
			for _, b := range risingEntries {
				x := newPair(t, k, 3, 1)
				x.insert(1, 1, a)
				x.insert(1, 0, b)
				x.insert(1, 2, b)
				x.decrease(1, b)
				x.ask()
				x.drain(1)
			}
		}
	})
}

// TestTies: of the same entries the lowest slot comes first, whatever brought them there.
func TestTies(t *testing.T) {
	forEach(t, func(t *testing.T, k kind) {
		for seed := range uint64(10) {
			roll := roller(seed)
			x := newPair(t, k, 40, 3)
			for _, slot := range shuffled(40, roll) {
				x.insert(1+roll(3), slot, api.Entry{Key: int64(roll(2)), Seq: 7})
			}
			for _, slot := range shuffled(40, roll) {
				x.decrease(slot, api.Entry{Key: 0, Seq: 7})
				x.min(x.p.home[slot])
			}
			x.meld(3, 1)
			x.meld(2, 3)
			x.drain(2)
		}
	})
}

func TestMeld(t *testing.T) {
	forEach(t, func(t *testing.T, k kind) {
		x := newPair(t, k, 8, 5)
		for slot, h := range []int{1, 1, 2, 4, 2, 2} {
			x.insert(h, slot, key(int64(slot*5%6)))
		}
		x.meld(2, 1)
		x.ask()
		x.meld(2, 1)
		x.meld(1, 2)
		x.meld(3, 2)
		x.ask()
		x.meld(3, 5)
		x.ask()
		x.delete(2)
		x.decrease(5, key(-3))
		x.meld(4, 3)
		x.ask()
		x.make()
		x.insert(6, 6, key(2))
		x.meld(6, 4)
		x.insert(6, 7, key(-7))
		x.decrease(0, key(-8))
		x.ask()
		x.drainAll()
	})
}

// TestMeldOfEmptyHeaps: heaps with nothing in them are melded as others are.
func TestMeldOfEmptyHeaps(t *testing.T) {
	forEach(t, func(t *testing.T, k kind) {
		x := newPair(t, k, 3, 6)
		x.meld(1, 2)
		x.insert(1, 0, key(1))
		x.delete(0)
		x.meld(3, 1)
		x.insert(3, 0, key(2))
		x.ask()
		x.insert(4, 1, key(1))
		x.extract(4)
		x.meld(3, 4)
		x.meld(5, 3)
		x.ask()
		x.meld(5, 6)
		x.insert(5, 2, key(2))
		x.ask()
		x.drainAll()
	})
}

// TestSlotsAgain: a slot that came out comes in again, with any entry, into any heap.
func TestSlotsAgain(t *testing.T) {
	forEach(t, func(t *testing.T, k kind) {
		x := newPair(t, k, 3, 2)
		for i := range 20 {
			x.insert(1+i%2, i%3, key(int64(i*7%5)))
			x.insert(2-i%2, (i+1)%3, key(int64(i*3%5)))
			x.ask()
			if i%4 < 2 {
				x.extract(1 + i%2)
			} else {
				x.delete(i % 3)
			}
			x.askSlot(i % 3)
			x.delete((i + 1) % 3)
			x.ask()
		}
		x.drainAll()
	})
}

// TestApart: what is done to a nest is nothing to another one (P2).
func TestApart(t *testing.T) {
	forEach(t, func(t *testing.T, k kind) {
		a, b := newPair(t, k, 3, 2), newPair(t, k, 3, 2)
		a.insert(1, 0, key(5))
		a.insert(1, 1, key(4))
		b.insert(2, 0, key(3))
		b.insert(2, 2, key(7))
		a.meld(2, 1)
		a.decrease(0, key(1))
		b.ask()
		b.delete(0)
		a.ask()
		a.extract(2)
		b.make()
		b.ask()
		a.make()
		a.ask()
	})
}

// TestOrders puts in and takes out all orders of some slots. Whoever tells so many orders from each other by questions with
// two answers each asks, over all of them, at least as often as if they were the leaves of as flat a tree as can be.
func TestOrders(t *testing.T) {
	const slots, orders, flat = 6, 720, 9
	const least = orders*flat + 2*(orders-1<<flat)
	forEach(t, func(t *testing.T, k kind) {
		steps, seen := 0, 0
		permute(slots, func(order []int) {
			x := newPair(t, k, slots, 1)
			for slot, i := range order {
				x.insert(1, slot, key(int64(i)))
			}
			x.drain(1)
			steps += x.n.Steps()
			seen++
		})
		if seen != orders || steps < least {
			t.Errorf("%d orders took %d steps, less than %d: not all were counted", seen, steps, least)
		}
	})
}

// permute tells all orders of the numbers from 0 to below n.
func permute(n int, tell func(order []int)) {
	order := make([]int, n)
	for i := range order {
		order[i] = i
	}
	var from func(i int)
	from = func(i int) {
		if i == n {
			tell(order)
			return
		}
		for k := i; k < n; k++ {
			order[i], order[k] = order[k], order[i]
			from(i + 1)
			order[i], order[k] = order[k], order[i]
		}
	}
	from(0)
}

package pq

import (
	"cmp"
	"slices"
	"strconv"
	"testing"

	"haycock/api"
	"haycock/gauge"
)

// TestSteps: they are the nest's, and none where nothing is held against anything.
func TestSteps(t *testing.T) {
	forEach(t, func(t *testing.T, c api.Config) {
		x := newPair(t, c, 20, 3, 3)
		exactly := func(want int, what string, do func()) {
			t.Helper()
			before := x.s.Steps()
			do()
			if took := x.s.Steps() - before; took != want {
				t.Errorf("%s took %d steps, not %d", what, took, want)
			}
			if x.s.Steps() != x.s.nest.Steps() {
				t.Errorf("%d steps, not the nest's %d", x.s.Steps(), x.s.nest.Steps())
			}
		}
		var first, second api.Handle
		exactly(0, "Insert of one", func() { first = x.insert(1, 2) })
		exactly(1, "Insert of two", func() { second = x.insert(1, 1) })
		exactly(0, "Meld into none", func() { x.meld(2, 1) })
		exactly(0, "what changes nothing", func() {
			x.s.Config()
			x.s.Capacity()
			x.s.Live()
			x.do(call{op: api.OpLen, a: 2})
			x.askHandle(first)
			x.newHeap()
			x.fails(call{op: api.OpDecrease, x: first, key: 3}, api.ErrKeyUp)
			x.fails(call{op: api.OpMeld, a: 2, b: 2}, api.ErrSame)
			x.wantNoHeap(1, 2)
			x.wantStale(api.Handle{Slot: 1, Gen: 2})
		})
		exactly(0, "ExtractMin of one of two", func() { x.extract(2) })
		x.wantStale(second)
		exactly(0, "Delete of the last one", func() { x.delete(first) })
		x.fill(2, 4, 2, 8, 6, 1, 7, 5)
		exactly(0, "what is full of errors", func() {
			x.fails(call{op: api.OpInsert, a: 5}, api.ErrNoHeap)
			x.fails(call{op: api.OpExtract, a: 3}, api.ErrEmpty)
			x.fails(call{op: api.OpMin, a: 3}, api.ErrEmpty)
		})
		x.drainAll()
	})
}

// TestOrders puts in and takes out all orders of some keys. Whoever tells so many orders from each other by questions with
// two answers each asks, over all of them, at least as often as if they were the leaves of as flat a tree as can be.
func TestOrders(t *testing.T) {
	const entries, orders, flat = 6, 720, 9
	const least = orders*flat + 2*(orders-1<<flat)
	forEach(t, func(t *testing.T, c api.Config) {
		steps, seen := 0, 0
		permute(entries, func(order []int) {
			x := newPair(t, c, entries, 1, 1)
			for _, key := range order {
				x.insert(1, int64(key))
			}
			x.drain(1)
			steps += x.s.Steps()
			seen++
		})
		if seen != orders || steps < least {
			t.Errorf("%d orders took %d steps, less than %d: not all were counted", seen, steps, least)
		}
	})
}

// permute tells all orders of the numbers from 0 to below n.
func permute(n int, tell func(order []int)) {
	order := make([]int, n)
	for i := range order {
		order[i] = i
	}
	var from func(i int)
	from = func(i int) {
		if i == n {
			tell(order)
			return
		}
		for k := i; k < n; k++ {
			order[i], order[k] = order[k], order[i]
			from(i + 1)
			order[i], order[k] = order[k], order[i]
		}
	}
	from(0)
}

// crowd is a gauged store with many entries: it knows them by the order in which they came.
type crowd struct {
	*gauged
	handles []api.Handle
	keys    []int64
}

// crowded is a store whose entries are in two heaps: so many in the first one, the others in the second one.
func crowded(t *testing.T, c api.Config, first, second int, keyOf func(i int) int64) *crowd {
	t.Helper()
	x := &crowd{gauged: open(t, c, first+second, 1, 2)}
	for i := range first + second {
		h := 1
		if i >= first {
			h = 2
		}
		r := x.do(call{op: api.OpInsert, a: h, key: keyOf(i)})
		if r.Code != 0 {
			t.Fatalf("Insert: %v", r)
		}
		x.handles, x.keys = append(x.handles, r.Handle), append(x.keys, keyOf(i))
	}
	return x
}

// delete takes out one, by its number.
func (x *crowd) delete(i int) {
	x.t.Helper()
	if r := x.do(call{op: api.OpDelete, x: x.handles[i]}); r != (api.Reply{Key: x.keys[i]}) {
		x.t.Fatalf("Delete: %v, not the key %d", r, x.keys[i])
	}
}

// decrease decreases one, by its number.
func (x *crowd) decrease(i int, key int64) {
	x.t.Helper()
	x.keys[i] = key
	if r := x.do(call{op: api.OpDecrease, x: x.handles[i], key: key}); r != (api.Reply{}) {
		x.t.Fatalf("DecreaseKey: %v", r)
	}
}

// drain takes out those that are left, all of them in one heap: as their keys rise, of like ones as they came.
func (x *crowd) drain(h int, left []int) {
	x.t.Helper()
	slices.SortFunc(left, func(a, b int) int { return cmp.Or(cmp.Compare(x.keys[a], x.keys[b]), a-b) })
	for _, i := range left {
		want := api.Reply{Handle: x.handles[i], Key: x.keys[i]}
		if r := x.do(call{op: api.OpMin, a: h}); r != want {
			x.t.Fatalf("Min: %v, not %v", r, want)
		}
		if r := x.do(call{op: api.OpExtract, a: h}); r != want {
			x.t.Fatalf("ExtractMin: %v, not %v", r, want)
		}
	}
	if r := x.do(call{op: api.OpExtract, a: h}); r != (api.Reply{Code: api.ErrEmpty}) {
		x.t.Fatalf("ExtractMin: %v, though nothing is left", r)
	}
}

// upTo is the numbers from 0 to below n.
func upTo(n int) []int {
	all := make([]int, n)
	for i := range all {
		all[i] = i
	}
	return all
}

// orders are ways in which keys may come.
func orders(n int) map[string]func(i int) int64 {
	order := shuffled(n, roller(uint64(n)))
	return map[string]func(i int) int64{
		"rising":  func(i int) int64 { return int64(i) },
		"falling": func(i int) int64 { return int64(-i) },
		"same":    func(int) int64 { return 3 },
		"few":     func(i int) int64 { return int64(i * 7919 % 5) },
		"swung":   func(i int) int64 { return int64(i) * int64(1-2*(i%2)) },
		"mixed":   func(i int) int64 { return int64(order[i]) },
	}
}

// forOrders runs a test by each order of keys, on heaps of sizes about powers of two; of the greatest size by some of them.
func forOrders(t *testing.T, test func(t *testing.T, c api.Config, n int, keyOf func(i int) int64)) {
	t.Helper()
	forFew(t, func(t *testing.T, c api.Config) {
		for _, n := range []int{1, 2, 3, 4, 5, 7, 8, 9, 15, 16, 17, 31, 32, 33, 255, 256, 257, 1000, mostSlots} {
			for name, keyOf := range orders(n) {
				if n < mostSlots || name == "mixed" || name == "few" || name == "rising" {
					t.Run(name+" "+strconv.Itoa(n), func(t *testing.T) { test(t, c, n, keyOf) })
				}
			}
		}
	})
}

// TestStepsOut: whatever comes in comes out in order, and no call takes more steps than it may.
func TestStepsOut(t *testing.T) {
	forOrders(t, func(t *testing.T, c api.Config, n int, keyOf func(i int) int64) {
		x := crowded(t, c, n, 0, keyOf)
		if x.s.Live() != n {
			t.Fatalf("%d are live, not %d", x.s.Live(), n)
		}
		x.drain(1, upTo(n))
		if x.s.Live() != 0 {
			t.Fatalf("%d are live", x.s.Live())
		}
	})
}

// TestStepsDelete takes out half of the entries, wherever they are, ahead of the rest.
func TestStepsDelete(t *testing.T) {
	forOrders(t, func(t *testing.T, c api.Config, n int, keyOf func(i int) int64) {
		x := crowded(t, c, n, 0, keyOf)
		all := shuffled(n, roller(5))
		for _, i := range all[:n/2] {
			x.delete(i)
		}
		x.drain(1, all[n/2:])
	})
}

// TestStepsDecrease decreases keys to what is ahead of all others, to what they are, and to what changes little.
func TestStepsDecrease(t *testing.T) {
	forOrders(t, func(t *testing.T, c api.Config, n int, keyOf func(i int) int64) {
		x := crowded(t, c, n, 0, keyOf)
		for nth, i := range shuffled(n, roller(6)) {
			now := x.keys[i]
			x.decrease(i, now)
			switch nth % 3 {
			case 0:
				x.decrease(i, int64(-2*mostSlots-nth))
			case 1:
				x.decrease(i, now-2)
			default:
				x.decrease(i, min(now, now/2))
			}
		}
		x.drain(1, upTo(n))
	})
}

// TestStepsMeld melds heaps of unlike sizes, the lesser one into the greater one and the other way round.
func TestStepsMeld(t *testing.T) {
	sizes := []int{0, 1, 2, 7, 64, 100, 1000, 4000}
	forFew(t, func(t *testing.T, c api.Config) {
		for _, a := range sizes {
			for _, b := range sizes {
				for _, keyOf := range orders(a + b) {
					x := crowded(t, c, a, b, keyOf)
					if r := x.do(call{op: api.OpMeld, a: 2, b: 1}); r != (api.Reply{}) {
						t.Fatalf("Meld: %v", r)
					}
					x.drain(2, upTo(a+b))
				}
			}
		}
	})
}

// TestMeldAll melds all heaps there can be, one behind the other, each with an entry in it: into the one that grows, and the
// one that grows into each.
func TestMeldAll(t *testing.T) {
	forFew(t, func(t *testing.T, c api.Config) {
		for _, intoOne := range []bool{false, true} {
			x := &crowd{gauged: open(t, c, mostSlots, 1, mostHeaps)}
			for i := range mostSlots {
				r := x.do(call{op: api.OpInsert, a: i + 1, key: int64(-i)})
				x.handles, x.keys = append(x.handles, r.Handle), append(x.keys, int64(-i))
			}
			all := 1
			for one := 2; one <= mostHeaps; one++ {
				a, b := all, one
				if intoOne {
					a, b = one, all
				}
				if r := x.do(call{op: api.OpMeld, a: a, b: b}); r != (api.Reply{}) {
					t.Fatalf("Meld: %v", r)
				}
				all = a
			}
			if r := x.do(call{op: api.OpLen, a: all}); r != (api.Reply{N: mostSlots}) {
				t.Fatalf("Len: %v", r)
			}
			x.drain(all, upTo(mostSlots))
		}
	})
}

// TestInAndOut: as what comes out comes in again, behind all others or ahead of them, few steps are taken.
func TestInAndOut(t *testing.T) {
	const count, rounds = 512, 5000
	forFew(t, func(t *testing.T, c api.Config) {
		for _, by := range []int64{0, 1, 100, 10000} {
			for name, keyOf := range orders(count) {
				g := open(t, c, count, greatestGen, 1)
				for i := range count {
					g.do(call{op: api.OpInsert, a: 1, key: keyOf(i)})
				}
				last := int64(leastInt)
				for i := range rounds {
					out := g.do(call{op: api.OpExtract, a: 1})
					if out.Code != 0 || by == 0 && out.Key < last {
						t.Fatalf("%s: ExtractMin: %v, behind %d", name, out, last)
					}
					last = out.Key
					in := g.do(call{op: api.OpInsert, a: 1, key: out.Key + by*int64(i%3-1)})
					if in.Handle != (api.Handle{Slot: out.Handle.Slot, Gen: out.Handle.Gen + 1}) {
						t.Fatalf("%s: Insert: %v, behind %v", name, in, out)
					}
				}
			}
		}
	})
}

// TestRisingIntoSkew: a thousand keys that rise, put into a skew heap, and taken out.
func TestRisingIntoSkew(t *testing.T) {
	c := api.Config{Kind: api.KindSkew}
	x := crowded(t, c, 1000, 0, func(i int) int64 { return int64(i) })
	for i := range 1000 {
		if r := x.do(call{op: api.OpExtract, a: 1}); r != (api.Reply{Handle: x.handles[i], Key: int64(i)}) {
			t.Fatalf("ExtractMin: %v", r)
		}
	}
	if steps, most := x.s.Steps(), gauge.Whole(c, 2000); steps > most {
		t.Errorf("%d steps, more than %d", steps, most)
	}
}

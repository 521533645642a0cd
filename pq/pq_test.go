package pq

import (
	"testing"

	"haycock/api"
	"haycock/binomial"
	"haycock/dary"
	"haycock/fibonacci"
	"haycock/leftist"
	"haycock/pairing"
	"haycock/shed"
	"haycock/skew"
)

// someGens are those around the edges of 8, 16, 31 and 32 bits.
var someGens = []uint32{0, 1, 2, 3, 4, 255, 256, 257, 1<<16 - 1, 1 << 16, 1<<16 + 1, 1<<31 - 1, 1 << 31, greatestGen - 1, greatestGen}

// wantNone asks for no store, and that error.
func wantNone(t *testing.T, c api.Config, capacity int, most uint32, want api.Errno) {
	t.Helper()
	if s, e := Open(c, capacity, most); s != nil || e != want {
		t.Errorf("Open(%v, %d, %d) = %v, %d, not %d", c, capacity, most, s, e, want)
	}
}

// TestOpenOfNoConfig: layer 2's error comes first, whatever else is wrong.
func TestOpenOfNoConfig(t *testing.T) {
	for _, capacity := range []int{-1, 0, 3, 65536, 65537, leastInt, greatestInt} {
		for _, most := range []uint32{0, 1, greatestGen} {
			for _, kind := range append([]int{0, 9, 10, 16, 255, 256, 257, 258, 1<<16 + 1, 1<<32 + 2}, farNumbers...) {
				for _, d := range []int{-1, 0, 1, 2, 3, 16, 17} {
					wantNone(t, api.Config{Kind: kind, D: d}, capacity, most, api.ErrKind)
				}
			}
			for _, d := range append([]int{0, 1, 17, 18, 256, 258}, farNumbers...) {
				wantNone(t, api.Config{Kind: api.KindDary, D: d}, capacity, most, api.ErrDegree)
			}
			for _, kind := range []int{1, 3, 4, 5, 6, 7, 8} {
				for _, d := range append([]int{1, 2, 3, 16, 17}, farNumbers...) {
					wantNone(t, api.Config{Kind: kind, D: d}, capacity, most, api.ErrDegree)
				}
			}
		}
	}
}

// TestOpenOfNoRange: layer 3's error.
func TestOpenOfNoRange(t *testing.T) {
	forEach(t, func(t *testing.T, c api.Config) {
		for _, capacity := range farNumbers {
			for _, most := range someGens {
				wantNone(t, c, capacity, most, api.ErrRange)
			}
		}
		for _, capacity := range []int{0, 1, 5, 65535, 65536} {
			wantNone(t, c, capacity, 0, api.ErrRange)
		}
	})
}

func TestOpen(t *testing.T) {
	forEach(t, func(t *testing.T, c api.Config) {
		for _, capacity := range []int{0, 1, 2, 255, 65535, 65536} {
			for _, most := range []uint32{1, 2, greatestGen} {
				x := newPair(t, c, capacity, most, 0)
				if x.s.Config() != c || x.s.Capacity() != capacity || x.s.Live() != 0 || x.s.Steps() != 0 {
					t.Fatalf("Config, Capacity, Live, Steps: %v, %d, %d, %d", x.s.Config(), x.s.Capacity(), x.s.Live(), x.s.Steps())
				}
				for _, h := range append([]int{0, 1, 2, 65535, 65536}, farNumbers...) {
					x.wantNoHeap(h, 1)
				}
				x.wants(call{op: api.OpNew}, api.Reply{Heap: 1})
			}
		}
	})
}

// TestNests: the nest is of the Config's kind, with as many children, and as many slots.
func TestNests(t *testing.T) {
	for _, c := range configs() {
		s := open(t, c, 7, 1, 0).s
		kind, capacity := 0, 0
		switch n := s.nest.(type) {
		case *dary.Nest:
			kind, capacity = api.KindDary, n.Capacity()
			if c.Kind == api.KindBinary && n.Degree() == 2 {
				kind = api.KindBinary
			} else if n.Degree() != c.D {
				t.Errorf("%v: %d children each", c, n.Degree())
			}
		case *binomial.Nest:
			kind, capacity = api.KindBinomial, n.Capacity()
		case *pairing.Nest:
			kind, capacity = api.KindPairing, n.Capacity()
		case *fibonacci.Nest:
			kind, capacity = api.KindFibonacci, n.Capacity()
		case *leftist.Nest:
			kind, capacity = api.KindLeftist, n.Capacity()
		case *skew.Nest:
			kind, capacity = api.KindSkew, n.Capacity()
		case *shed.Nest:
			kind, capacity = api.KindLibrary, n.Capacity()
		}
		if kind != c.Kind || capacity != 7 {
			t.Errorf("%v: a nest of the kind %d, with %d slots", c, kind, capacity)
		}
	}
}

// TestNewNest: what can't be made is no nest, not one that holds nothing.
func TestNewNest(t *testing.T) {
	for _, c := range configs() {
		if n, e := newNest(c, -1); n != nil || e != api.ErrRange {
			t.Errorf("%v: %v, %d", c, n, e)
		}
	}
	if n, e := newNest(api.Config{}, 1); n != nil || e != api.ErrKind {
		t.Errorf("no kind: %v, %d", n, e)
	}
}

// wantNoHeap does to a heap that isn't there what can be done to heaps; another one is there, or isn't.
func (x *pair) wantNoHeap(h, other int) {
	x.t.Helper()
	x.fails(call{op: api.OpInsert, a: h, key: leastInt}, api.ErrNoHeap)
	x.fails(call{op: api.OpMin, a: h}, api.ErrNoHeap)
	x.fails(call{op: api.OpExtract, a: h}, api.ErrNoHeap)
	x.fails(call{op: api.OpLen, a: h}, api.ErrNoHeap)
	x.fails(call{op: api.OpMeld, a: h, b: other}, api.ErrNoHeap)
	x.fails(call{op: api.OpMeld, a: other, b: h}, api.ErrNoHeap)
	x.fails(call{op: api.OpMeld, a: h, b: h}, api.ErrNoHeap)
}

// wantStale does to a handle that isn't live what can be done to handles.
func (x *pair) wantStale(at api.Handle) {
	x.t.Helper()
	x.fails(call{op: api.OpDecrease, x: at, key: leastInt}, api.ErrStale)
	x.fails(call{op: api.OpDecrease, x: at, key: greatestInt}, api.ErrStale)
	x.fails(call{op: api.OpDelete, x: at}, api.ErrStale)
	x.fails(call{op: api.OpKey, x: at}, api.ErrStale)
	x.fails(call{op: api.OpHome, x: at}, api.ErrStale)
}

// TestNewHeap goes to the end of what may be made, and beyond: what is melded makes no room.
func TestNewHeap(t *testing.T) {
	forEach(t, func(t *testing.T, c api.Config) {
		x := newPair(t, c, 2, 5, mostHeaps-1)
		x.wantNoHeap(mostHeaps, 1)
		x.meld(7, 1000)
		x.wants(call{op: api.OpNew}, api.Reply{Heap: mostHeaps})
		x.fails(call{op: api.OpNew}, api.ErrFull)
		x.meld(mostHeaps, 1)
		x.fails(call{op: api.OpNew}, api.ErrFull)
		x.insert(mostHeaps, 3)
		x.insert(7, 4)
		x.meld(7, mostHeaps)
		for _, h := range []int{mostHeaps, mostHeaps + 1, 1000, 1, 0, -1} {
			x.wantNoHeap(h, 7)
		}
		x.drain(7)
		x.fails(call{op: api.OpNew}, api.ErrFull)
	})
}

// TestWrongHeaps: nothing is changed by calls upon heaps that aren't there.
func TestWrongHeaps(t *testing.T) {
	forEach(t, func(t *testing.T, c api.Config) {
		x := newPair(t, c, 5, 3, 4)
		x.fill(1, 3, 1)
		x.fill(2, 2, 2)
		x.meld(1, 3)
		for _, h := range append([]int{0, 3, 5, 6}, farNumbers...) {
			x.wantNoHeap(h, 1)
			x.wantNoHeap(h, 3)
			x.wantNoHeap(h, 4)
		}
		x.ask()
		x.wants(call{op: api.OpInsert, a: 1, key: 1}, api.Reply{Handle: api.Handle{Slot: 4, Gen: 1}})
		x.wants(call{op: api.OpNew}, api.Reply{Heap: 5})
		x.drainAll()
	})
}

// TestWrongHandles: nothing is changed by calls with handles that aren't live.
func TestWrongHandles(t *testing.T) {
	forEach(t, func(t *testing.T, c api.Config) {
		x := newPair(t, c, 6, 4, 2)
		live := x.fill(1, 3, 1, 2)
		x.delete(live[1])
		x.fill(2, 7)
		x.delete(live[2])
		for _, gen := range someGens {
			for _, slot := range append([]int{2, 3, 4, 5, 6, 7, 65535, 65536}, farNumbers...) {
				x.wantStale(api.Handle{Slot: slot, Gen: gen})
			}
			if gen != 1 {
				x.wantStale(api.Handle{Slot: 0, Gen: gen})
			}
			if gen != 2 {
				x.wantStale(api.Handle{Slot: 1, Gen: gen})
			}
		}
		x.ask()
		x.drainAll()
	})
}

// TestFull: what there is no slot for is no entry; of a heap that isn't there, that is told first.
func TestFull(t *testing.T) {
	forEach(t, func(t *testing.T, c api.Config) {
		for _, capacity := range []int{0, 1, 2, 5} {
			x := newPair(t, c, capacity, 2, 2)
			for i := range capacity {
				x.insert(1+i%2, int64(i*3%4))
			}
			for h := range 3 {
				x.do(call{op: api.OpInsert, a: h, key: leastInt})
			}
			x.fails(call{op: api.OpInsert, a: 1}, api.ErrFull)
			x.fails(call{op: api.OpInsert, a: 3}, api.ErrNoHeap)
			x.ask()
			x.extract(1)
			x.insert(2, 1)
			x.drainAll()
		}
	})
}

// TestEmpty: a heap with nothing in it is there, behind whatever it came to be so.
func TestEmpty(t *testing.T) {
	forEach(t, func(t *testing.T, c api.Config) {
		x := newPair(t, c, 4, 9, 3)
		wantEmpty := func(h int) {
			t.Helper()
			x.fails(call{op: api.OpMin, a: h}, api.ErrEmpty)
			x.fails(call{op: api.OpExtract, a: h}, api.ErrEmpty)
			x.wants(call{op: api.OpLen, a: h}, api.Reply{})
		}
		wantEmpty(1)
		x.extract(1)
		x.insert(1, 5)
		x.extract(1)
		wantEmpty(1)
		x.delete(x.insert(1, 5))
		wantEmpty(1)
		x.meld(2, 1)
		wantEmpty(2)
		x.insert(2, 1)
		wantEmpty(3)
		x.meld(3, 2)
		x.wants(call{op: api.OpMin, a: 3}, api.Reply{Handle: api.Handle{Slot: 0, Gen: 3}, Key: 1})
		x.extract(3)
		wantEmpty(3)
	})
}

// TestExample: of two entries of one key, the one that came first comes out first.
func TestExample(t *testing.T) {
	forEach(t, func(t *testing.T, c api.Config) {
		x := newPair(t, c, 2, 1, 1)
		x.wants(call{op: api.OpInsert, a: 1, key: 5}, api.Reply{Handle: api.Handle{Slot: 0, Gen: 1}})
		x.wants(call{op: api.OpInsert, a: 1, key: 5}, api.Reply{Handle: api.Handle{Slot: 1, Gen: 1}})
		x.wants(call{op: api.OpMin, a: 1}, api.Reply{Handle: api.Handle{Slot: 0, Gen: 1}, Key: 5})
		x.wants(call{op: api.OpExtract, a: 1}, api.Reply{Handle: api.Handle{Slot: 0, Gen: 1}, Key: 5})
		x.wants(call{op: api.OpExtract, a: 1}, api.Reply{Handle: api.Handle{Slot: 1, Gen: 1}, Key: 5})
		x.fails(call{op: api.OpExtract, a: 1}, api.ErrEmpty)
	})
}

// TestTies: of like keys it is told by the order in which they came, not by their slots, nor by their heaps, nor by what
// they were decreased from.
func TestTies(t *testing.T) {
	forEach(t, func(t *testing.T, c api.Config) {
		x := newPair(t, c, 6, 9, 2)
		l := x.fill(1, 5, 5, 9, 5)
		x.delete(l[0])
		x.delete(l[1])
		second, first := x.insert(1, 5), x.insert(2, 5)
		if second.Slot != 1 || first.Slot != 0 {
			t.Fatalf("the slots %d and %d", second.Slot, first.Slot)
		}
		last := x.insert(2, 7)
		x.decrease(last, 5)
		x.decrease(l[2], 5)
		x.decrease(l[3], 5)
		x.meld(2, 1)
		for _, want := range []api.Handle{l[2], l[3], second, first, last} {
			x.wants(call{op: api.OpMin, a: 2}, api.Reply{Handle: want, Key: 5})
			x.wants(call{op: api.OpExtract, a: 2}, api.Reply{Handle: want, Key: 5})
		}
	})
}

// TestSeq: from 1 on, one more with each Insert that was answered OK, and none with another one; a key that is decreased
// keeps its number.
func TestSeq(t *testing.T) {
	for _, c := range configs() {
		x := newPair(t, c, 3, 2, 2)
		wantSeq := func(at api.Handle, want api.Entry) {
			t.Helper()
			if got, ok := x.s.nest.Entry(at.Slot); !ok || got != want {
				t.Fatalf("%v: %v, not %v", c, got, want)
			}
		}
		x.fails(call{op: api.OpInsert, a: 3}, api.ErrNoHeap)
		for i := range 3 {
			wantSeq(x.insert(1+i%2, 7), api.Entry{Key: 7, Seq: uint64(i + 1)})
			x.fails(call{op: api.OpInsert, a: 0}, api.ErrNoHeap)
		}
		x.fails(call{op: api.OpInsert, a: 1}, api.ErrFull)
		x.meld(1, 2)
		x.extract(1)
		at := x.insert(1, -7)
		wantSeq(at, api.Entry{Key: -7, Seq: 4})
		x.decrease(at, -8)
		wantSeq(at, api.Entry{Key: -8, Seq: 4})
	}
}

// TestStaleForEver: an entry that came out has a stale handle, though its slot is given out again.
func TestStaleForEver(t *testing.T) {
	outs := map[string]func(x *pair, at api.Handle, key int64){
		"ExtractMin": func(x *pair, at api.Handle, key int64) {
			x.wants(call{op: api.OpExtract, a: 1}, api.Reply{Handle: at, Key: key})
		},
		"Delete": func(x *pair, at api.Handle, key int64) {
			x.wants(call{op: api.OpDelete, x: at}, api.Reply{Key: key})
		},
	}
	for name, out := range outs {
		t.Run(name, func(t *testing.T) {
			forEach(t, func(t *testing.T, c api.Config) {
				x := newPair(t, c, 2, 9, 1)
				x.insert(1, 100)
				var gone []api.Handle
				for gen := uint32(1); gen <= 9; gen++ {
					at := x.insert(1, int64(gen))
					if at != (api.Handle{Slot: 1, Gen: gen}) {
						t.Fatalf("handle %v", at)
					}
					for _, g := range gone {
						x.wantStale(g)
					}
					x.wants(call{op: api.OpKey, x: at}, api.Reply{Key: int64(gen)})
					out(x, at, int64(gen))
					x.wantStale(at)
					x.wants(call{op: api.OpLen, a: 1}, api.Reply{N: 1})
					gone = append(gone, at)
				}
				x.fails(call{op: api.OpInsert, a: 1}, api.ErrFull)
				x.ask()
			})
		})
	}
}

// TestWornOut: a store whose slots were all given back with their greatest generation is full for ever.
func TestWornOut(t *testing.T) {
	forEach(t, func(t *testing.T, c api.Config) {
		for most := range uint32(4) {
			x := newPair(t, c, 3, most+1, 1)
			for range most + 1 {
				x.fill(1, 2, 1, 3)
				x.delete(api.Handle{Slot: 2, Gen: x.p.places[2].gen})
				x.drain(1)
			}
			for range 3 {
				x.fails(call{op: api.OpInsert, a: 1, key: 1}, api.ErrFull)
			}
			if x.s.Live() != 0 || x.s.Capacity() != 3 {
				t.Fatalf("Live, Capacity: %d, %d", x.s.Live(), x.s.Capacity())
			}
			x.ask()
		}
	})
}

// TestMeld: the handles of both stay, and the second one's number is none any more.
func TestMeld(t *testing.T) {
	forEach(t, func(t *testing.T, c api.Config) {
		x := newPair(t, c, 8, 2, 4)
		a, b := x.fill(1, 4, 1, 9), x.fill(2, 3, 1, 8)
		x.fails(call{op: api.OpMeld, a: 2, b: 2}, api.ErrSame)
		x.fails(call{op: api.OpMeld, a: 4, b: 4}, api.ErrSame)
		x.wants(call{op: api.OpMeld, a: 2, b: 1}, api.Reply{})
		x.wantNoHeap(1, 2)
		x.wants(call{op: api.OpLen, a: 2}, api.Reply{N: 6})
		for i, want := range []int64{4, 1, 9} {
			x.wants(call{op: api.OpKey, x: a[i]}, api.Reply{Key: want})
			x.wants(call{op: api.OpHome, x: a[i]}, api.Reply{Heap: 2})
			x.wants(call{op: api.OpHome, x: b[i]}, api.Reply{Heap: 2})
		}
		x.wants(call{op: api.OpMeld, a: 3, b: 2}, api.Reply{})
		x.wants(call{op: api.OpHome, x: a[0]}, api.Reply{Heap: 3})
		x.fails(call{op: api.OpMeld, a: 3, b: 2}, api.ErrNoHeap)
		x.fails(call{op: api.OpMeld, a: 1, b: 3}, api.ErrNoHeap)
		x.wants(call{op: api.OpMeld, a: 3, b: 4}, api.Reply{})
		x.ask()
		x.wants(call{op: api.OpDelete, x: b[1]}, api.Reply{Key: 1})
		x.decrease(a[2], -9)
		x.wants(call{op: api.OpMin, a: 3}, api.Reply{Handle: a[2], Key: -9})
		x.insert(3, 0)
		x.drainAll()
	})
}

// TestKeyUp: a greater key is an error, and nothing else; the same one is none.
func TestKeyUp(t *testing.T) {
	forEach(t, func(t *testing.T, c api.Config) {
		x := newPair(t, c, len(risingKeys)+2, 2, 1)
		l := append(x.fill(1, risingKeys...), x.fill(1, 0, 0)...)
		for i, k := range risingKeys {
			for _, up := range risingKeys[i+1:] {
				x.fails(call{op: api.OpDecrease, x: l[i], key: up}, api.ErrKeyUp)
				x.wants(call{op: api.OpKey, x: l[i]}, api.Reply{Key: k})
			}
			x.wants(call{op: api.OpDecrease, x: l[i], key: k}, api.Reply{})
			if k < greatestInt {
				x.fails(call{op: api.OpDecrease, x: l[i], key: k + 1}, api.ErrKeyUp)
			}
		}
		x.ask()
		x.drain(1)
	})
}

// TestDecreaseToAll decreases each key to each one that isn't greater, among others.
func TestDecreaseToAll(t *testing.T) {
	forEach(t, func(t *testing.T, c api.Config) {
		for i, k := range risingKeys {
			for _, down := range risingKeys[:i+1] {
				x := newPair(t, c, 4, 2, 1)
				l := x.fill(1, down, k, down, 5)
				x.wants(call{op: api.OpDecrease, x: l[1], key: down}, api.Reply{})
				x.wants(call{op: api.OpKey, x: l[1]}, api.Reply{Key: down})
				x.ask()
				x.drain(1)
			}
		}
	})
}

// TestAllKeys puts in keys at all edges, rising, falling and mixed; they come out rising.
func TestAllKeys(t *testing.T) {
	most := len(risingKeys)
	rising, falling := make([]int, most), make([]int, most)
	for i := range most {
		rising[i], falling[i] = i, most-1-i
	}
	forEach(t, func(t *testing.T, c api.Config) {
		for _, order := range [][]int{rising, falling, shuffled(most, roller(1)), shuffled(most, roller(2))} {
			x := newPair(t, c, most, 1, 1)
			for _, i := range order {
				x.insert(1, risingKeys[i])
			}
			for _, want := range risingKeys {
				if r := x.do(call{op: api.OpExtract, a: 1}); r.Key != want || r.Code != 0 {
					t.Fatalf("%v, not the key %d", r, want)
				}
			}
		}
	})
}

// TestDelete takes out each of some entries, wherever it is, and then all others.
func TestDelete(t *testing.T) {
	forEach(t, func(t *testing.T, c api.Config) {
		for which := range 12 {
			x := newPair(t, c, 12, 2, 2)
			var l []api.Handle
			for i := range 12 {
				l = append(l, x.insert(1, int64(i*5%12)))
			}
			x.extract(1)
			x.do(call{op: api.OpDelete, x: l[which]})
			x.wantStale(l[which])
			x.insert(2, -1)
			x.ask()
			x.drainAll()
		}
	})
}

// TestApart: what is done to a store is nothing to another one (P2).
func TestApart(t *testing.T) {
	forEach(t, func(t *testing.T, c api.Config) {
		a, b := newPair(t, c, 3, 2, 2), newPair(t, c, 3, 2, 2)
		a.fill(1, 5, 4)
		at := b.insert(2, 3)
		b.insert(2, 7)
		a.meld(2, 1)
		b.ask()
		b.delete(at)
		a.ask()
		a.extract(2)
		b.newHeap()
		b.ask()
		a.newHeap()
		a.ask()
		a.drainAll()
		b.drainAll()
	})
}

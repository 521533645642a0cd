package play

import (
	"slices"
	"testing"

	"haycock/api"
	"haycock/pq"
	"haycock/record"
)

// asked is a record, and what it is answered.
type asked struct {
	r    api.Record
	want api.Reply
}

// at is a handle.
func at(slot int, gen uint32) api.Handle {
	return api.Handle{Slot: slot, Gen: gen}
}

// tale is a way on which each operation is done, and each error answered: upon a store of three slots, two generations each.
func tale() []asked {
	return []asked{
		{api.Record{Op: api.OpLen, A: 1}, api.Reply{Code: 171}},
		{api.Record{Op: api.OpNew}, api.Reply{Heap: 1}},
		{api.Record{Op: api.OpNew, A: 7, B: 8, Key: 9}, api.Reply{Heap: 2}},
		{api.Record{Op: api.OpMin, A: 1}, api.Reply{Code: 172}},
		{api.Record{Op: api.OpExtract, A: 2}, api.Reply{Code: 172}},
		{api.Record{Op: api.OpLen, A: 1}, api.Reply{}},
		{api.Record{Op: api.OpInsert, A: 1, Key: 5}, api.Reply{Handle: at(0, 1)}},
		{api.Record{Op: api.OpInsert, A: 2, Key: -3}, api.Reply{Handle: at(1, 1)}},
		{api.Record{Op: api.OpInsert, A: 1, B: 9, Key: 5}, api.Reply{Handle: at(2, 1)}},
		{api.Record{Op: api.OpInsert, A: 1, Key: 1}, api.Reply{Code: 32}},
		{api.Record{Op: api.OpInsert, A: 3, Key: 1}, api.Reply{Code: 171}},
		{api.Record{Op: api.OpMin, A: 1, B: 2, Key: 3}, api.Reply{Handle: at(0, 1), Key: 5}},
		{api.Record{Op: api.OpMin, A: 2}, api.Reply{Handle: at(1, 1), Key: -3}},
		{api.Record{Op: api.OpLen, A: 1, B: 2, Key: 3}, api.Reply{N: 2}},
		{api.Record{Op: api.OpHome, A: 1, B: 1, Key: 7}, api.Reply{Heap: 2}},
		{api.Record{Op: api.OpKey, A: 1, B: 1, Key: 7}, api.Reply{Key: -3}},
		{api.Record{Op: api.OpDecrease, A: 2, B: 1, Key: 6}, api.Reply{Code: 173}},
		{api.Record{Op: api.OpDecrease, A: 2, B: 1, Key: 4}, api.Reply{}},
		{api.Record{Op: api.OpKey, A: 2, B: 1}, api.Reply{Key: 4}},
		{api.Record{Op: api.OpMin, A: 1}, api.Reply{Handle: at(2, 1), Key: 4}},
		{api.Record{Op: api.OpMeld, A: 2, B: 2}, api.Reply{Code: 174}},
		{api.Record{Op: api.OpMeld, A: 2, B: 3}, api.Reply{Code: 171}},
		{api.Record{Op: api.OpMeld, A: 2, B: 1, Key: 7}, api.Reply{}},
		{api.Record{Op: api.OpLen, A: 1}, api.Reply{Code: 171}},
		{api.Record{Op: api.OpLen, A: 2}, api.Reply{N: 3}},
		{api.Record{Op: api.OpHome, A: 0, B: 1}, api.Reply{Heap: 2}},
		{api.Record{Op: api.OpExtract, A: 2, B: 9, Key: 9}, api.Reply{Handle: at(1, 1), Key: -3}},
		{api.Record{Op: api.OpKey, A: 1, B: 1}, api.Reply{Code: 33}},
		{api.Record{Op: api.OpHome, A: 1, B: 1}, api.Reply{Code: 33}},
		{api.Record{Op: api.OpDelete, A: 1, B: 1}, api.Reply{Code: 33}},
		{api.Record{Op: api.OpDecrease, A: 1, B: 1, Key: -9}, api.Reply{Code: 33}},
		{api.Record{Op: api.OpBad, A: 2, B: 1, Key: 7}, api.Reply{Code: 181}},
		{api.Record{Op: api.OpInsert, A: 2, Key: 4}, api.Reply{Handle: at(1, 2)}},
		{api.Record{Op: api.OpMin, A: 2}, api.Reply{Handle: at(2, 1), Key: 4}},
		{api.Record{Op: api.OpDelete, A: 2, B: 1, Key: 7}, api.Reply{Key: 4}},
		{api.Record{Op: api.OpDelete, A: 1, B: 1}, api.Reply{Code: 33}},
		{api.Record{Op: api.OpExtract, A: 2}, api.Reply{Handle: at(1, 2), Key: 4}},
		{api.Record{Op: 11, A: 2, B: 1, Key: 7}, api.Reply{Code: 181}},
		{api.Record{Op: api.OpInsert, A: 2}, api.Reply{Handle: at(2, 2)}},
		{api.Record{Op: api.OpInsert, A: 2}, api.Reply{Code: 32}},
		{api.Record{Op: api.OpNew}, api.Reply{Heap: 3}},
	}
}

// taleRecords are the tale's records alone.
func taleRecords() []api.Record {
	var l []api.Record
	for _, x := range tale() {
		l = append(l, x.r)
	}
	return l
}

// taleReplies are the tale's replies alone.
func taleReplies() []api.Reply {
	var l []api.Reply
	for _, x := range tale() {
		l = append(l, x.want)
	}
	return l
}

func TestTale(t *testing.T) {
	forEach(t, func(t *testing.T, c api.Config) {
		s := open(t, c, 3, 2)
		for i, x := range tale() {
			if got := One(s, x.r); got != x.want {
				t.Fatalf("%d: One(%v) = %v, not %v", i, x.r, got, x.want)
			}
		}
		if s.Live() != 2 {
			t.Errorf("%d handles are live", s.Live())
		}
	})
}

// twins are two stores: upon one of them records are done by One, upon the other one call by call.
type twins struct {
	t        *testing.T
	s, plain *pq.Store
	slots    int
	most     uint32
}

func newTwins(t *testing.T, c api.Config, capacity int, most uint32) *twins {
	t.Helper()
	return &twins{t: t, s: open(t, c, capacity, most), plain: open(t, c, capacity, most), slots: capacity, most: most}
}

// do does a record upon both: they answer alike, and take as many steps.
func (w *twins) do(r api.Record) api.Reply {
	w.t.Helper()
	want, got := plainOne(w.plain, r), One(w.s, r)
	if got != want {
		w.t.Fatalf("One(%v) = %v, not %v", r, got, want)
	}
	if w.s.Steps() != w.plain.Steps() || w.s.Live() != w.plain.Live() {
		w.t.Fatalf("behind %v: %d steps and %d live handles, not %d and %d", r, w.s.Steps(), w.s.Live(), w.plain.Steps(), w.plain.Live())
	}
	return got
}

// fails does a record that is answered an error, and nothing beside it.
func (w *twins) fails(r api.Record, e api.Errno) {
	w.t.Helper()
	if got := w.do(r); got != (api.Reply{Code: e}) {
		w.t.Fatalf("One(%v) = %v, not the error %d alone", r, got, e)
	}
}

// same holds all that can be asked of both stores against each other.
func (w *twins) same(heaps int) {
	w.t.Helper()
	for h := range heaps + 2 {
		w.do(api.Record{Op: api.OpLen, A: uint32(h)})
		w.do(api.Record{Op: api.OpMin, A: uint32(h)})
	}
	for slot := range w.slots + 1 {
		for gen := range min(w.most, 5) + 2 {
			w.do(api.Record{Op: api.OpKey, A: uint32(slot), B: gen})
			w.do(api.Record{Op: api.OpHome, A: uint32(slot), B: gen})
		}
	}
}

// TestWrongOps: what is no operation does nothing, whatever else is in the record.
func TestWrongOps(t *testing.T) {
	for _, op := range append(slices.Clone(farOps), api.OpBad) {
		w := newTwins(t, some, 3, 2)
		w.do(api.Record{Op: api.OpNew})
		w.do(api.Record{Op: api.OpInsert, A: 1, Key: 5})
		for _, a := range append([]uint32{0, 1, 2}, farHalves...) {
			for _, b := range []uint32{0, 1, 2, greatestHalf} {
				for _, key := range []int64{leastInt, -1, 0, 5, greatestInt} {
					if got := One(w.s, api.Record{Op: op, A: a, B: b, Key: key}); got != (api.Reply{Code: 181}) {
						t.Fatalf("One of the Op %d: %v", op, got)
					}
				}
			}
		}
		w.same(1)
		w.do(api.Record{Op: api.OpInsert, A: 1, Key: 5})
		if got := w.do(api.Record{Op: api.OpNew}); got != (api.Reply{Heap: 2}) {
			t.Errorf("the next heap behind the Op %d: %v", op, got)
		}
	}
}

// TestFarNumbers: heaps, slots and generations that there would be in fewer bits.
func TestFarNumbers(t *testing.T) {
	forEach(t, func(t *testing.T, c api.Config) {
		w := newTwins(t, c, 3, 2)
		w.do(api.Record{Op: api.OpNew})
		w.do(api.Record{Op: api.OpNew})
		w.do(api.Record{Op: api.OpInsert, A: 1, Key: 5})
		w.do(api.Record{Op: api.OpInsert, A: 1, Key: 6})
		for _, far := range append([]uint32{0, 3, 255, 256, 257, 65535, 65536}, farHalves...) {
			for _, op := range []int{api.OpInsert, api.OpMin, api.OpExtract, api.OpLen} {
				w.fails(api.Record{Op: op, A: far}, api.ErrNoHeap)
			}
			w.fails(api.Record{Op: api.OpMeld, A: far, B: 1}, api.ErrNoHeap)
			w.fails(api.Record{Op: api.OpMeld, A: 1, B: far}, api.ErrNoHeap)
			w.fails(api.Record{Op: api.OpMeld, A: far, B: far}, api.ErrNoHeap)
			for _, op := range []int{api.OpDecrease, api.OpDelete, api.OpKey, api.OpHome} {
				w.fails(api.Record{Op: op, A: 0, B: far, Key: leastInt}, api.ErrStale)
				if far > 0 {
					w.fails(api.Record{Op: op, A: far, B: 1, Key: leastInt}, api.ErrStale)
				}
			}
		}
		w.same(2)
	})
}

// TestErrorsComeFirst: where several errors apply, the store's own order holds.
func TestErrorsComeFirst(t *testing.T) {
	forEach(t, func(t *testing.T, c api.Config) {
		w := newTwins(t, c, 1, 1)
		w.fails(api.Record{Op: api.OpMeld}, api.ErrNoHeap)
		w.do(api.Record{Op: api.OpNew})
		w.do(api.Record{Op: api.OpInsert, A: 1, Key: 5})
		w.fails(api.Record{Op: api.OpInsert, A: 2, Key: 5}, api.ErrNoHeap)
		w.fails(api.Record{Op: api.OpInsert, A: 1, Key: 5}, api.ErrFull)
		w.fails(api.Record{Op: api.OpDecrease, A: 0, B: 2, Key: 6}, api.ErrStale)
		w.fails(api.Record{Op: api.OpDecrease, A: 0, B: 1, Key: 6}, api.ErrKeyUp)
		w.fails(api.Record{Op: api.OpMeld, A: 2, B: 2}, api.ErrNoHeap)
		w.fails(api.Record{Op: api.OpMeld, A: 1, B: 1}, api.ErrSame)
		w.same(1)
	})
}

// TestKeys: a key is the record's, in all its bits, and so it comes back.
func TestKeys(t *testing.T) {
	for _, key := range someKeys {
		for _, less := range someKeys {
			w := newTwins(t, some, 1, 1)
			w.do(api.Record{Op: api.OpNew})
			w.do(api.Record{Op: api.OpInsert, A: 1, Key: key})
			want, code := key, api.OK
			if less > key {
				code = api.ErrKeyUp
			} else {
				want = less
			}
			if got := w.do(api.Record{Op: api.OpDecrease, B: 1, Key: less}); got != (api.Reply{Code: code}) {
				t.Fatalf("%d decreased to %d: %v", key, less, got)
			}
			if got := w.do(api.Record{Op: api.OpKey, B: 1}); got != (api.Reply{Key: want}) {
				t.Fatalf("%d decreased to %d: %v is its key", key, less, got)
			}
			if got := w.do(api.Record{Op: api.OpMin, A: 1}); got != (api.Reply{Handle: at(0, 1), Key: want}) {
				t.Fatalf("%d decreased to %d: %v is first", key, less, got)
			}
			if got := w.do(api.Record{Op: api.OpDelete, B: 1}); got != (api.Reply{Key: want}) {
				t.Fatalf("%d decreased to %d: %v came out", key, less, got)
			}
		}
	}
}

// TestMixedRecords does many records, right and wrong ones, upon both stores.
func TestMixedRecords(t *testing.T) {
	forEach(t, func(t *testing.T, c api.Config) {
		for seed := range 20 {
			for _, most := range []uint32{1, 3, greatestHalf} {
				w := newTwins(t, c, 4, most)
				for _, r := range mixedWay(uint64(seed), 300) {
					w.do(r)
				}
				w.same(10)
			}
		}
	})
}

// TestAllShortWays has each way of four records, of few, upon a store with two heaps.
func TestAllShortWays(t *testing.T) {
	few := []api.Record{
		{}, {Op: api.OpNew}, {Op: api.OpInsert, A: 1, Key: 5}, {Op: api.OpInsert, A: 2, Key: 4}, {Op: api.OpMin, A: 1}, {Op: api.OpExtract, A: 1},
		{Op: api.OpDecrease, B: 1, Key: 4}, {Op: api.OpDelete, B: 1}, {Op: api.OpMeld, A: 1, B: 2}, {Op: api.OpLen, A: 1}, {Op: api.OpKey, B: 1}, {Op: api.OpHome, B: 1},
	}
	for way := range len(few) * len(few) * len(few) * len(few) {
		w := newTwins(t, some, 2, 2)
		w.do(api.Record{Op: api.OpNew})
		w.do(api.Record{Op: api.OpNew})
		rest := way
		for range 4 {
			w.do(few[rest%len(few)])
			rest /= len(few)
		}
	}
}

// TestMostHeaps: the number of the last heap, and no more behind it.
func TestMostHeaps(t *testing.T) {
	l := make([]api.Record, mostHeaps+2)
	for i := range l {
		l[i] = api.Record{Op: api.OpNew}
	}
	l = append(l, api.Record{Op: api.OpInsert, A: mostHeaps, Key: 3}, api.Record{Op: api.OpHome, B: 1}, api.Record{Op: api.OpMeld, A: 1, B: mostHeaps}, api.Record{Op: api.OpNew})
	out, e := Run(some, 1, 1, l...)
	if e != api.OK || len(out) != len(l) {
		t.Fatal(len(out), e)
	}
	for i := range mostHeaps {
		if out[i] != (api.Reply{Heap: i + 1}) {
			t.Fatalf("the heap %d: %v", i+1, out[i])
		}
	}
	full := api.Reply{Code: api.ErrFull}
	if got, want := out[mostHeaps:], []api.Reply{full, full, {Handle: at(0, 1)}, {Heap: mostHeaps}, {}, full}; !slices.Equal(got, want) {
		t.Errorf("behind the last heap: %v, not %v", got, want)
	}
}

// TestMostSlots: the last slot, and its handle.
func TestMostSlots(t *testing.T) {
	l := []api.Record{{Op: api.OpNew}}
	for i := range mostSlots + 1 {
		l = append(l, api.Record{Op: api.OpInsert, A: 1, Key: int64(-i)})
	}
	l = append(l, api.Record{Op: api.OpLen, A: 1}, api.Record{Op: api.OpKey, A: mostSlots - 1, B: 1}, api.Record{Op: api.OpExtract, A: 1}, api.Record{Op: api.OpLen, A: 1})
	out, e := Run(api.Config{Kind: api.KindPairing}, mostSlots, greatestHalf, l...)
	if e != api.OK || len(out) != len(l) {
		t.Fatal(len(out), e)
	}
	for i := range mostSlots {
		if out[i+1] != (api.Reply{Handle: at(i, 1)}) {
			t.Fatalf("the slot %d: %v", i, out[i+1])
		}
	}
	want := []api.Reply{{Code: api.ErrFull}, {N: mostSlots}, {Key: 1 - mostSlots}, {Handle: at(mostSlots-1, 1), Key: 1 - mostSlots}, {N: mostSlots - 1}}
	if got := out[mostSlots+1:]; !slices.Equal(got, want) {
		t.Errorf("behind the last slot: %v, not %v", got, want)
	}
}

// wantRun asks Run, and Bytes of the records as bytes, for those replies.
func wantRun(t *testing.T, c api.Config, capacity int, most uint32, l []api.Record, want []api.Reply) {
	t.Helper()
	if got, e := Run(c, capacity, most, l...); e != api.OK || !slices.Equal(got, want) {
		t.Errorf("Run(%v, %d, %d, %v) = %v, %d, not %v", c, capacity, most, l, got, e, want)
	}
	if got, e := Bytes(c, capacity, most, record.Encode(l...)); e != api.OK || !slices.Equal(got, want) {
		t.Errorf("Bytes(%v, %d, %d) of %v = %v, %d, not %v", c, capacity, most, l, got, e, want)
	}
}

func TestRunOfTale(t *testing.T) {
	forEach(t, func(t *testing.T, c api.Config) {
		l, want := taleRecords(), taleReplies()
		for n := range len(l) + 1 {
			wantRun(t, c, 3, 2, l[:n], want[:n])
		}
		// A second time upon one store would be answered otherwise.
		wantRun(t, c, 3, 2, l, want)
	})
}

// TestRunsStore: the store is of the capacity and of the generations that were asked for.
func TestRunsStore(t *testing.T) {
	insert, extract := api.Record{Op: api.OpInsert, A: 1}, api.Record{Op: api.OpExtract, A: 1}
	full := api.Reply{Code: api.ErrFull}
	for capacity := range 5 {
		l, want := []api.Record{{Op: api.OpNew}}, []api.Reply{{Heap: 1}}
		for slot := range capacity {
			l, want = append(l, insert), append(want, api.Reply{Handle: at(slot, 1)})
		}
		wantRun(t, some, capacity, 1, append(l, insert), append(want, full))
	}
	for most := range uint32(6) {
		l, want := []api.Record{{Op: api.OpNew}}, []api.Reply{{Heap: 1}}
		for gen := range most + 1 {
			x := at(0, gen+1)
			l, want = append(l, insert, extract), append(want, api.Reply{Handle: x}, api.Reply{Handle: x})
		}
		wantRun(t, some, 1, most+1, append(l, insert), append(want, full))
		wantRun(t, some, 1, greatestHalf, append(l, insert), append(want, api.Reply{Handle: at(0, most+2)}))
	}
}

func TestRunOfNoStore(t *testing.T) {
	for _, x := range wrongStores {
		for _, l := range [][]api.Record{nil, {}, {{Op: api.OpNew}}, {{Op: 77}}, taleRecords()} {
			if got, e := Run(x.c, x.capacity, x.most, l...); len(got) != 0 || e != x.want {
				t.Errorf("Run(%v, %d, %d) = %v, %d, not %d", x.c, x.capacity, x.most, got, e, x.want)
			}
			for _, b := range [][]byte{nil, {1}, record.Encode(l...)} {
				if got, e := Bytes(x.c, x.capacity, x.most, b); len(got) != 0 || e != x.want {
					t.Errorf("Bytes(%v, %d, %d) = %v, %d, not %d", x.c, x.capacity, x.most, got, e, x.want)
				}
			}
		}
	}
}

func TestRunOfNothing(t *testing.T) {
	forEach(t, func(t *testing.T, c api.Config) {
		for _, l := range [][]api.Record{nil, {}, make([]api.Record, 0, 9)} {
			wantRun(t, c, 0, 1, l, nil)
			wantRun(t, c, mostSlots, greatestHalf, l, nil)
		}
		for _, b := range [][]byte{nil, {}, make([]byte, 0, 99)} {
			if got, e := Bytes(c, 1, 1, b); len(got) != 0 || e != api.OK {
				t.Errorf("Bytes of nothing: %v, %d", got, e)
			}
		}
	})
}

// TestRunIsOnes: mixed records are answered as One answers them, one behind the other.
func TestRunIsOnes(t *testing.T) {
	forEach(t, func(t *testing.T, c api.Config) {
		for seed := range 10 {
			l := mixedWay(uint64(1000+seed), 200)
			s := open(t, c, 4, 3)
			var want []api.Reply
			for _, r := range l {
				want = append(want, One(s, r))
			}
			wantRun(t, c, 4, 3, l, want)
		}
	})
}

// TestBytesLeftOver: what is left over is one OpBad; a wrong first byte is one, too.
func TestBytesLeftOver(t *testing.T) {
	l, want := taleRecords()[:7], taleReplies()[:7]
	whole := record.Encode(l...)
	for more := 1; more < 17; more++ {
		b := append(slices.Clone(whole), record.Encode(api.Record{Op: api.OpNew})[:more]...)
		if got, e := Bytes(some, 3, 2, b); e != api.OK || !slices.Equal(got, append(slices.Clone(want), api.Reply{Code: 181})) {
			t.Errorf("%d bytes left over: %v, %d", more, got, e)
		}
	}
	for first := range 256 {
		b := make([]byte, 17)
		b[0] = byte(first)
		if first < 11 {
			continue
		}
		if got, e := Bytes(some, 3, 2, append(b, whole...)); e != api.OK || !slices.Equal(got, append([]api.Reply{{Code: 181}}, want...)) {
			t.Errorf("a first byte of %d: %v, %d", first, got, e)
		}
	}
	// The highest byte of a number comes first.
	b := append(record.Encode(api.Record{Op: api.OpNew}), 2, 0, 0, 0, 1, 0, 0, 0, 0, 255, 255, 255, 255, 255, 255, 255, 249, 3, 0, 0, 0, 1, 9, 9, 9, 9, 9, 9, 9, 9, 9, 9, 9, 9)
	if got, e := Bytes(some, 1, 1, b); e != api.OK || !slices.Equal(got, []api.Reply{{Heap: 1}, {Handle: at(0, 1)}, {Handle: at(0, 1), Key: -7}}) {
		t.Errorf("Bytes(%v) = %v, %d", b, got, e)
	}
}

// TestAnswersAreNew: what is handed in is neither changed nor kept, and no answer shares memory.
func TestAnswersAreNew(t *testing.T) {
	l := append(taleRecords(), make([]api.Record, 9)...)
	b := append(record.Encode(l...), make([]byte, 99)...)
	keptL, keptB, n := slices.Clone(l), slices.Clone(b), len(tale())
	fromL, _ := Run(some, 3, 2, l[:n]...)
	fromB, _ := Bytes(some, 3, 2, b[:17*n])
	if !slices.Equal(l, keptL) || !slices.Equal(b, keptB) {
		t.Fatal("what is handed in is changed")
	}
	otherL, _ := Run(some, 3, 2, l[:n]...)
	otherB, _ := Bytes(some, 3, 2, b[:17*n])
	over(otherL[:cap(otherL)], api.Reply{Code: 7, Heap: 7, N: 7})
	over(otherB[:cap(otherB)], api.Reply{Code: 8, Heap: 8, N: 8})
	over(l, api.Record{Op: api.OpHome, A: 9})
	over(b, 0xee)
	if want := taleReplies(); !slices.Equal(fromL, want) || !slices.Equal(fromB, want) {
		t.Error("an answer changes behind its call")
	}
}

// over writes one thing over all of a list.
func over[T any](l []T, x T) {
	for i := range l {
		l[i] = x
	}
}

func FuzzBytes(f *testing.F) {
	f.Add([]byte{}, uint8(1), uint8(1))
	f.Add([]byte{1, 2, 3}, uint8(0), uint8(1))
	f.Add(record.Encode(taleRecords()...), uint8(3), uint8(2))
	f.Fuzz(func(t *testing.T, b []byte, capacity, most uint8) {
		for _, c := range []api.Config{some, {Kind: api.KindDary, D: 3}, {Kind: api.KindFibonacci}, {Kind: api.KindLibrary}} {
			w := newTwins(t, c, int(capacity), uint32(most)+1)
			var want []api.Reply
			for _, r := range record.Decode(b) {
				want = append(want, w.do(r))
			}
			if got, e := Bytes(c, int(capacity), uint32(most)+1, b); e != api.OK || !slices.Equal(got, want) {
				t.Errorf("Bytes(%v, %d, %d, %v) = %v, %d, not %v", c, capacity, most, b, got, e, want)
			}
		}
	})
}

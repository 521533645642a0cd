package cells

import (
	"slices"
	"testing"

	"haycock/api"
	"haycock/entry"
)

const (
	leastInt    = -1 << 63
	greatestInt = 1<<63 - 1
	greatestSeq = 1<<64 - 1
)

// farNumbers are of no slot and of no heap; some of them would be of one in fewer bits.
var farNumbers = []int{
	leastInt, leastInt + 1, leastInt + 2, -1 << 62, -1 << 32, -1<<32 + 1, -65537, -65536, -65535, -3, -2, -1,
	65537, 65538, 1 << 17, 1<<31 - 1, 1 << 31, 1 << 32, 1<<32 + 1, 1<<32 + 2, 1 << 62, greatestInt - 1, greatestInt,
}

// risingEntries rise; among them are the edges, and such as a sign or fewer bits would turn round.
var risingEntries = []api.Entry{
	{Key: leastInt}, {Key: leastInt, Seq: 1}, {Key: leastInt, Seq: greatestSeq}, {Key: leastInt + 1}, {Key: -1 << 32, Seq: 9},
	{Key: -2, Seq: 1 << 63}, {Key: -1}, {Key: -1, Seq: greatestSeq}, {}, {Seq: 1}, {Seq: 1<<63 - 1}, {Seq: 1 << 63}, {Seq: greatestSeq},
	{Key: 1}, {Key: 1, Seq: 1 << 32}, {Key: 1<<31 - 1}, {Key: 1 << 31}, {Key: 1 << 32}, {Key: 1<<32 + 1}, {Key: 1 << 62, Seq: 5},
	{Key: greatestInt - 1, Seq: greatestSeq}, {Key: greatestInt}, {Key: greatestInt, Seq: 1}, {Key: greatestInt, Seq: greatestSeq},
}

// key is an entry of that key.
func key(k int64) api.Entry {
	return api.Entry{Key: k}
}

// fresh is new cells of which it is known that they can be.
func fresh(t *testing.T, capacity int) *Cells {
	t.Helper()
	c, e := New(capacity)
	if e != api.OK || c == nil {
		t.Fatalf("New(%d) = %v, %d", capacity, c, e)
	}
	return c
}

// filled is cells with so many heaps.
func filled(t *testing.T, capacity, heaps int) *Cells {
	t.Helper()
	c := fresh(t, capacity)
	for i := range heaps {
		wantMake(t, c, i+1)
	}
	return c
}

// wantMake makes a heap, and asks for that number.
func wantMake(t *testing.T, c *Cells, want int) {
	t.Helper()
	if h := c.Make(); h != want {
		t.Fatalf("Make() = %d, not %d", h, want)
	}
}

// wantNoMore asks for one heap more, twice.
func wantNoMore(t *testing.T, c *Cells) {
	t.Helper()
	for range 2 {
		if h := c.Make(); h != 0 {
			t.Fatalf("Make() = %d, though all were made", h)
		}
	}
}

// wantPut puts what can be put, and asks where it is; a second time it can't be.
func wantPut(t *testing.T, c *Cells, h, slot int, e api.Entry) {
	t.Helper()
	size := c.Len(h)
	if !c.Put(h, slot, e) {
		t.Fatalf("Put(%d, %d, %v) = false", h, slot, e)
	}
	wantIn(t, c, slot, h, e)
	wantHeap(t, c, h, size+1)
	wantNoPut(t, c, h, slot, api.Entry{Key: e.Key - 1, Seq: 77})
}

// wantNoPut puts what can't be put, and asks whether that changed something.
func wantNoPut(t *testing.T, c *Cells, h, slot int, e api.Entry) {
	t.Helper()
	wantUnchanged(t, c, h, slot, func() bool { return c.Put(h, slot, e) })
}

// wantUnchanged does what should answer false, and asks whether that changed something of a heap and a slot.
func wantUnchanged(t *testing.T, c *Cells, h, slot int, do func() bool) {
	t.Helper()
	has, size, steps := c.Has(h), c.Len(h), c.Steps()
	before, in := c.Entry(slot)
	home, homed := c.Home(slot)
	if do() {
		t.Fatalf("true, of the heap %d and the slot %d", h, slot)
	}
	if c.Has(h) != has || c.Len(h) != size || c.Steps() != steps {
		t.Fatalf("heap %d: Has, Len, Steps: %v, %d, %d, not %v, %d, %d", h, c.Has(h), c.Len(h), c.Steps(), has, size, steps)
	}
	if e, ok := c.Entry(slot); e != before || ok != in {
		t.Fatalf("slot %d: Entry: %v, %v, not %v, %v", slot, e, ok, before, in)
	}
	if at, ok := c.Home(slot); at != home || ok != homed {
		t.Fatalf("slot %d: Home: %d, %v, not %d, %v", slot, at, ok, home, homed)
	}
}

// wantDrop drops what is in a heap; a second time it isn't.
func wantDrop(t *testing.T, c *Cells, slot int) {
	t.Helper()
	h, _ := c.Home(slot)
	size := c.Len(h)
	if !c.Drop(slot) {
		t.Fatalf("Drop(%d) = false", slot)
	}
	wantOut(t, c, slot)
	wantHeap(t, c, h, size-1)
}

// wantOut asks of a slot that is in no heap.
func wantOut(t *testing.T, c *Cells, slot int) {
	t.Helper()
	if e, ok := c.Entry(slot); ok || e != (api.Entry{}) {
		t.Fatalf("Entry(%d) = %v, %v", slot, e, ok)
	}
	if h, ok := c.Home(slot); ok || h != 0 {
		t.Fatalf("Home(%d) = %d, %v", slot, h, ok)
	}
	wantUnchanged(t, c, 1, slot, func() bool { return c.Drop(slot) })
	wantUnchanged(t, c, 1, slot, func() bool { return c.Lower(slot, key(leastInt)) })
	wantUnchanged(t, c, 1, slot, func() bool { return c.Ahead(slot, slot) })
}

// wantIn asks of a slot that is in a heap.
func wantIn(t *testing.T, c *Cells, slot, h int, e api.Entry) {
	t.Helper()
	if got, ok := c.Entry(slot); !ok || got != e {
		t.Fatalf("Entry(%d) = %v, %v, not %v", slot, got, ok, e)
	}
	if got, ok := c.Home(slot); !ok || got != h {
		t.Fatalf("Home(%d) = %d, %v, not %d", slot, got, ok, h)
	}
}

// wantHeap asks of a heap that is there.
func wantHeap(t *testing.T, c *Cells, h, size int) {
	t.Helper()
	if !c.Has(h) || c.Len(h) != size {
		t.Fatalf("heap %d: Has, Len: %v, %d, not true, %d", h, c.Has(h), c.Len(h), size)
	}
}

// wantNoHeap asks of a heap that isn't there: nothing comes into it, nor is it joined.
func wantNoHeap(t *testing.T, c *Cells, h, other, slot int) {
	t.Helper()
	if c.Has(h) || c.Len(h) != 0 {
		t.Fatalf("heap %d: Has, Len: %v, %d, though it isn't there", h, c.Has(h), c.Len(h))
	}
	wantNoPut(t, c, h, slot, key(1))
	wantApart(t, c, h, other)
	wantApart(t, c, other, h)
	wantApart(t, c, h, h)
}

// wantJoin joins what can be joined.
func wantJoin(t *testing.T, c *Cells, a, b int) {
	t.Helper()
	size := c.Len(a) + c.Len(b)
	if !c.Join(a, b) {
		t.Fatalf("Join(%d, %d) = false", a, b)
	}
	wantHeap(t, c, a, size)
	if c.Has(b) || c.Len(b) != 0 {
		t.Fatalf("behind Join(%d, %d) heap %d: Has, Len: %v, %d", a, b, b, c.Has(b), c.Len(b))
	}
}

// wantApart joins what can't be joined.
func wantApart(t *testing.T, c *Cells, a, b int) {
	t.Helper()
	has, size := c.Has(b), c.Len(b)
	wantUnchanged(t, c, a, 0, func() bool { return c.Join(a, b) })
	if c.Has(b) != has || c.Len(b) != size {
		t.Fatalf("heap %d: Has, Len: %v, %d, not %v, %d", b, c.Has(b), c.Len(b), has, size)
	}
}

// wantAhead holds two slots against each other, and asks for one step.
func wantAhead(t *testing.T, c *Cells, a, b int, want bool) {
	t.Helper()
	steps := c.Steps()
	if got := c.Ahead(a, b); got != want {
		t.Fatalf("Ahead(%d, %d) = %v", a, b, got)
	}
	if c.Steps() != steps+1 {
		t.Fatalf("Ahead(%d, %d) took %d steps", a, b, c.Steps()-steps)
	}
}

// wantSteps asks how many steps were counted.
func wantSteps(t *testing.T, c *Cells, want int) {
	t.Helper()
	if got := c.Steps(); got != want {
		t.Fatalf("Steps() = %d, not %d", got, want)
	}
}

func TestNewOfNone(t *testing.T) {
	for _, n := range farNumbers {
		if c, e := New(n); c != nil || e != api.ErrRange {
			t.Errorf("New(%d) = %v, %d", n, c, e)
		}
	}
}

// TestNew: there are no heaps, and no slot is in one.
func TestNew(t *testing.T) {
	for _, n := range []int{0, 1, 2, 3, 100, 255, 256, 65535, 65536} {
		c := fresh(t, n)
		if got := c.Capacity(); got != n {
			t.Errorf("Capacity() = %d, not %d", got, n)
		}
		for _, h := range append([]int{0, 1, 2, 65535, 65536}, farNumbers...) {
			wantNoHeap(t, c, h, 1, 0)
		}
		for _, slot := range append([]int{0, 1, n - 1, n}, farNumbers...) {
			wantOut(t, c, slot)
		}
		wantSteps(t, c, 0)
		wantMake(t, c, 1)
	}
}

// TestMake goes to the end of what may be made, and beyond: what is joined makes no room.
func TestMake(t *testing.T) {
	c := fresh(t, 2)
	for i := range 65536 {
		wantMake(t, c, i+1)
		wantHeap(t, c, i+1, 0)
		if c.Has(i + 2) {
			t.Fatalf("Has(%d), though %d were made", i+2, i+1)
		}
		if i == 1000 {
			wantJoin(t, c, 3, 1001)
		}
	}
	wantNoMore(t, c)
	wantJoin(t, c, 65536, 1)
	wantNoMore(t, c)
	wantPut(t, c, 65536, 1, key(5))
	wantJoin(t, c, 65535, 65536)
	wantIn(t, c, 1, 65535, key(5))
	wantNoHeap(t, c, 65537, 65535, 0)
	wantNoHeap(t, c, 65536, 65535, 0)
	wantNoHeap(t, c, 0, 65535, 0)
	wantNoMore(t, c)
	if c.Capacity() != 2 {
		t.Errorf("Capacity() = %d", c.Capacity())
	}
}

// TestMakeWithoutSlots: there may be heaps, though nothing can come into them.
func TestMakeWithoutSlots(t *testing.T) {
	c := filled(t, 0, 3)
	for h := range 4 {
		wantNoPut(t, c, h, 0, key(1))
	}
	wantJoin(t, c, 1, 3)
	wantMake(t, c, 4)
}

func TestPut(t *testing.T) {
	c := filled(t, 4, 3)
	wantPut(t, c, 2, 3, api.Entry{Key: -5, Seq: 7})
	wantPut(t, c, 2, 0, api.Entry{Key: -5, Seq: 7})
	wantPut(t, c, 3, 1, api.Entry{})
	for i, size := range []int{0, 2, 1} {
		wantHeap(t, c, i+1, size)
	}
	for h := -1; h < 6; h++ {
		for _, slot := range []int{0, 1, 3, -1, 4} {
			wantNoPut(t, c, h, slot, key(1))
		}
	}
	for _, h := range append([]int{0, 4}, farNumbers...) {
		wantNoPut(t, c, h, 2, key(1))
	}
	for _, slot := range append([]int{4, 5, 65535, 65536}, farNumbers...) {
		wantNoPut(t, c, 1, slot, key(1))
		wantOut(t, c, slot)
	}
	wantOut(t, c, 2)
	wantIn(t, c, 3, 2, api.Entry{Key: -5, Seq: 7})
	wantSteps(t, c, 0)
}

// TestPutAllEntries: any entry may be in a slot, that of a zero key and seq too.
func TestPutAllEntries(t *testing.T) {
	c := filled(t, len(risingEntries), 1)
	for slot, e := range risingEntries {
		wantPut(t, c, 1, slot, e)
	}
	for slot, e := range risingEntries {
		wantIn(t, c, slot, 1, e)
		wantDrop(t, c, slot)
	}
}

// TestPutEverywhere fills all slots of the greatest capacity.
func TestPutEverywhere(t *testing.T) {
	const most = 65536
	c := filled(t, most, 2)
	for slot := range most {
		wantPut(t, c, 1+slot%2, slot, key(int64(slot)))
	}
	wantHeap(t, c, 1, most/2)
	wantHeap(t, c, 2, most/2)
	wantNoPut(t, c, 1, most, key(1))
	wantJoin(t, c, 2, 1)
	for slot := range most {
		wantIn(t, c, slot, 2, key(int64(slot)))
		wantDrop(t, c, slot)
	}
	wantHeap(t, c, 2, 0)
}

func TestDrop(t *testing.T) {
	c := filled(t, 4, 2)
	wantPut(t, c, 1, 0, key(3))
	wantPut(t, c, 1, 2, key(4))
	wantPut(t, c, 2, 1, key(5))
	for _, slot := range append([]int{3, 4}, farNumbers...) {
		wantUnchanged(t, c, 1, slot, func() bool { return c.Drop(slot) })
		wantUnchanged(t, c, 2, 1, func() bool { return c.Drop(slot) })
	}
	wantDrop(t, c, 0)
	wantIn(t, c, 2, 1, key(4))
	wantDrop(t, c, 2)
	wantHeap(t, c, 1, 0)
	wantPut(t, c, 2, 0, key(9))
	wantPut(t, c, 1, 2, key(8))
	wantDrop(t, c, 1)
	wantIn(t, c, 0, 2, key(9))
	wantIn(t, c, 2, 1, key(8))
	wantSteps(t, c, 0)
}

// TestEmptyHeapsGoOut: of heaps with nothing in them none is kept among those with something in them.
func TestEmptyHeapsGoOut(t *testing.T) {
	c := filled(t, 8, 100)
	for h := 1; h <= 100; h++ {
		wantPut(t, c, h, h%8, key(1))
		if h%2 == 0 {
			wantJoin(t, c, h, h-1)
		}
		if len(c.sizes) != 1 {
			t.Fatalf("%d heaps have something in them", len(c.sizes))
		}
		wantDrop(t, c, h%8)
	}
	if len(c.sizes) != 0 {
		t.Errorf("%d heaps have something in them", len(c.sizes))
	}
}

// TestLower holds each entry against each other one.
func TestLower(t *testing.T) {
	c := filled(t, 2, 1)
	wantPut(t, c, 1, 1, key(7))
	for i, before := range risingEntries {
		for k, e := range risingEntries {
			wantPut(t, c, 1, 0, before)
			want := before
			if k <= i {
				want = e
			}
			if got := c.Lower(0, e); got != (k <= i) {
				t.Fatalf("Lower of %v to %v: %v", before, e, got)
			}
			wantIn(t, c, 0, 1, want)
			wantIn(t, c, 1, 1, key(7))
			wantHeap(t, c, 1, 2)
			wantDrop(t, c, 0)
		}
	}
	for _, slot := range append([]int{0, 2}, farNumbers...) {
		wantUnchanged(t, c, 1, 1, func() bool { return c.Lower(slot, key(leastInt)) })
		wantOut(t, c, slot)
	}
	wantSteps(t, c, 0)
}

// TestLowerAgain: what was lowered is held against its new entry, and a slot that came back against that alone.
func TestLowerAgain(t *testing.T) {
	c := filled(t, 2, 2)
	wantPut(t, c, 1, 0, api.Entry{Key: 10, Seq: 5})
	for _, x := range []struct {
		e  api.Entry
		ok bool
	}{
		{api.Entry{Key: 11}, false}, {api.Entry{Key: 10, Seq: 6}, false}, {api.Entry{Key: 10, Seq: 5}, true}, {api.Entry{Key: 10, Seq: 4}, true},
		{api.Entry{Key: 10, Seq: 5}, false}, {api.Entry{Key: 2, Seq: 9}, true}, {api.Entry{Key: 3}, false}, {api.Entry{Key: 2, Seq: 9}, true},
	} {
		if got := c.Lower(0, x.e); got != x.ok {
			t.Fatalf("Lower(0, %v) = %v", x.e, got)
		}
	}
	wantIn(t, c, 0, 1, api.Entry{Key: 2, Seq: 9})
	wantDrop(t, c, 0)
	wantPut(t, c, 2, 0, key(100))
	if !c.Lower(0, key(99)) {
		t.Error("a slot that came back isn't lowered")
	}
	wantPut(t, c, 1, 1, key(98))
	wantAhead(t, c, 1, 0, true)
	if !c.Lower(0, key(97)) {
		t.Error("not lowered")
	}
	wantAhead(t, c, 1, 0, false)
	wantAhead(t, c, 0, 1, true)
}

func TestJoin(t *testing.T) {
	c := filled(t, 6, 5)
	wantPut(t, c, 1, 0, key(1))
	wantPut(t, c, 1, 1, key(2))
	wantPut(t, c, 2, 2, key(3))
	wantPut(t, c, 4, 3, key(4))
	wantJoin(t, c, 2, 1)
	wantIn(t, c, 0, 2, key(1))
	wantIn(t, c, 1, 2, key(2))
	wantIn(t, c, 2, 2, key(3))
	wantIn(t, c, 3, 4, key(4))
	for _, h := range append([]int{0, 1, 6}, farNumbers...) {
		wantNoHeap(t, c, h, 2, 5)
	}
	wantApart(t, c, 2, 2)
	wantApart(t, c, 3, 3)
	wantJoin(t, c, 3, 2)
	wantHeap(t, c, 3, 3)
	wantJoin(t, c, 3, 5)
	wantHeap(t, c, 3, 3)
	wantJoin(t, c, 4, 3)
	for slot := range 4 {
		wantIn(t, c, slot, 4, key(int64(slot+1)))
	}
	wantDrop(t, c, 0)
	wantHeap(t, c, 4, 3)
	wantPut(t, c, 4, 0, key(9))
	wantMake(t, c, 6)
	wantHeap(t, c, 6, 0)
	wantJoin(t, c, 6, 4)
	wantIn(t, c, 0, 6, key(9))
	wantSteps(t, c, 0)
}

// TestJoinOfEmptyHeaps: heaps with nothing in them are joined as others are.
func TestJoinOfEmptyHeaps(t *testing.T) {
	c := filled(t, 1, 3)
	wantJoin(t, c, 1, 2)
	wantNoHeap(t, c, 2, 1, 0)
	wantPut(t, c, 1, 0, key(1))
	wantDrop(t, c, 0)
	wantJoin(t, c, 3, 1)
	wantPut(t, c, 3, 0, key(2))
	wantNoHeap(t, c, 1, 3, 0)
	wantNoHeap(t, c, 2, 3, 0)
}

// TestJoinAll joins all heaps there can be, one behind the other, each with a slot in it.
func TestJoinAll(t *testing.T) {
	const most = 65536
	c := filled(t, most, most)
	for slot := range most {
		wantPut(t, c, slot+1, slot, key(int64(slot)))
	}
	for h := 1; h < most; h++ {
		wantJoin(t, c, h+1, h)
	}
	for slot := range most {
		wantIn(t, c, slot, most, key(int64(slot)))
	}
	wantHeap(t, c, most, most)
	for slot := range most {
		wantDrop(t, c, slot)
	}
	wantHeap(t, c, most, 0)
}

func TestEntryAndHome(t *testing.T) {
	c := filled(t, 3, 2)
	wantPut(t, c, 2, 1, api.Entry{})
	wantIn(t, c, 1, 2, api.Entry{})
	for _, slot := range append([]int{0, 2, 3}, farNumbers...) {
		wantOut(t, c, slot)
	}
	wantSteps(t, c, 0)
}

// TestAhead holds each entry against each other one, in either slot: in one heap, and in two.
func TestAhead(t *testing.T) {
	c := filled(t, 4, 2)
	for h := 1; h <= 2; h++ {
		for i, a := range risingEntries {
			wantPut(t, c, 1, 1, a)
			for k, b := range risingEntries {
				wantPut(t, c, h, 2, b)
				wantAhead(t, c, 1, 2, i <= k)
				wantAhead(t, c, 2, 1, k < i)
				wantAhead(t, c, 1, 1, false)
				wantAhead(t, c, 2, 2, false)
				wantDrop(t, c, 2)
			}
			wantDrop(t, c, 1)
		}
	}
	wantSteps(t, c, 8*len(risingEntries)*len(risingEntries))
}

// TestAheadOfNone: of slots of which one is in no heap none is ahead, and no step is counted.
func TestAheadOfNone(t *testing.T) {
	c := filled(t, 4, 1)
	wantPut(t, c, 1, 1, key(leastInt))
	wantPut(t, c, 1, 2, key(greatestInt))
	wantDrop(t, c, 2)
	for _, none := range append([]int{0, 2, 3, 4}, farNumbers...) {
		for _, other := range []int{0, 1, 2, 3, 4, none} {
			wantUnchanged(t, c, 1, none, func() bool { return c.Ahead(other, none) })
			wantUnchanged(t, c, 1, none, func() bool { return c.Ahead(none, other) })
		}
	}
	wantSteps(t, c, 0)
}

// TestSteps: the meter's calls are those of the cells.
func TestSteps(t *testing.T) {
	c := filled(t, 2, 1)
	wantPut(t, c, 1, 0, key(1))
	wantPut(t, c, 1, 1, key(1))
	wantAhead(t, c, 0, 1, true)
	c.Count(5)
	wantSteps(t, c, 6)
	c.Count(-3)
	wantSteps(t, c, 6)
	wantAhead(t, c, 1, 0, false)
	wantSteps(t, c, 7)
	c.Count(greatestInt)
	wantSteps(t, c, 1<<62)
	if !c.Ahead(0, 1) || c.Ahead(1, 0) {
		t.Error("with all steps counted, 0 isn't ahead of 1")
	}
	wantSteps(t, c, 1<<62)
}

// TestExample: two slots with the same entry in one heap.
func TestExample(t *testing.T) {
	c := filled(t, 2, 1)
	wantPut(t, c, 1, 1, api.Entry{Key: 4, Seq: 4})
	wantPut(t, c, 1, 0, api.Entry{Key: 4, Seq: 4})
	wantAhead(t, c, 0, 1, true)
	wantAhead(t, c, 1, 0, false)
}

// TestApart: what is done to some cells is nothing to others (P2).
func TestApart(t *testing.T) {
	a, b := filled(t, 3, 2), filled(t, 3, 2)
	wantPut(t, a, 1, 0, key(1))
	wantPut(t, a, 2, 1, key(2))
	wantPut(t, b, 2, 0, key(3))
	wantJoin(t, a, 1, 2)
	wantAhead(t, a, 0, 1, true)
	wantHeap(t, b, 1, 0)
	wantHeap(t, b, 2, 1)
	wantIn(t, b, 0, 2, key(3))
	wantOut(t, b, 1)
	wantSteps(t, b, 0)
	wantDrop(t, b, 0)
	wantIn(t, a, 0, 1, key(1))
	wantMake(t, b, 3)
	wantMake(t, a, 3)
}

// calls are those of P5.4.
type calls interface {
	Make() int
	Has(h int) bool
	Len(h int) int
	Capacity() int
	Entry(slot int) (api.Entry, bool)
	Home(slot int) (int, bool)
	Steps() int
	Insert(h, slot int, e api.Entry) bool
	Decrease(slot int, e api.Entry) bool
	Delete(slot int) bool
	Meld(a, b int) bool
	Min(h int) (int, bool)
	Extract(h int) (int, bool)
}

// nest is as plain a one as can be: what P5.4 says are other calls are those, and Min looks at all slots.
type nest struct{ *Cells }

func (n nest) Insert(h, slot int, e api.Entry) bool { return n.Put(h, slot, e) }
func (n nest) Decrease(slot int, e api.Entry) bool  { return n.Lower(slot, e) }
func (n nest) Delete(slot int) bool                 { return n.Drop(slot) }
func (n nest) Meld(a, b int) bool                   { return n.Join(a, b) }

func (n nest) Min(h int) (int, bool) {
	first, ok := 0, false
	for slot := range n.Capacity() {
		if home, in := n.Home(slot); !in || home != h {
			continue
		}
		if !ok || n.Ahead(slot, first) {
			first, ok = slot, true
		}
	}
	return first, ok
}

func (n nest) Extract(h int) (int, bool) {
	slot, ok := n.Min(h)
	if ok {
		n.Drop(slot)
	}
	return slot, ok
}

// wantOrder takes all out of a heap, and asks for those slots, and for a step less each time than there are slots.
func wantOrder(t *testing.T, n calls, h int, want ...int) {
	t.Helper()
	for i, slot := range want {
		steps := n.Steps()
		if got, ok := n.Min(h); !ok || got != slot {
			t.Fatalf("Min(%d) = %d, %v, not %d", h, got, ok, slot)
		}
		if got, ok := n.Extract(h); !ok || got != slot {
			t.Fatalf("Extract(%d) = %d, %v, not %d", h, got, ok, slot)
		}
		if left := len(want) - i - 1; n.Steps() != steps+2*left || n.Len(h) != left {
			t.Fatalf("Steps, Len: %d, %d behind %d steps, %d slots are left", n.Steps(), n.Len(h), steps, left)
		}
	}
	steps := n.Steps()
	for range 2 {
		if got, ok := n.Extract(h); ok || got != 0 {
			t.Fatalf("Extract(%d) = %d, %v", h, got, ok)
		}
	}
	if n.Steps() != steps {
		t.Fatalf("%d steps upon an empty heap", n.Steps()-steps)
	}
}

// newNest is a nest that embeds cells, with so many heaps.
func newNest(t *testing.T, capacity, heaps int) calls {
	return nest{filled(t, capacity, heaps)}
}

// TestNest: a nest that embeds cells has all calls, and each heap has one slot that is ahead of all others.
func TestNest(t *testing.T) {
	n := newNest(t, 8, 3)
	for slot, k := range []int64{5, 3, 4, 3, 9, 3, 1} {
		if !n.Insert(1+slot%2, slot, key(k)) {
			t.Fatal(slot)
		}
	}
	if !n.Decrease(4, key(3)) || n.Decrease(4, key(4)) || !n.Delete(2) || n.Delete(2) || n.Insert(1, 0, key(1)) {
		t.Error("decrease, or delete")
	}
	if !n.Meld(3, 1) || n.Meld(3, 1) || n.Len(3) != 3 || n.Has(1) {
		t.Error("meld")
	}
	wantOrder(t, n, 1)
	if !n.Meld(2, 3) || n.Len(2) != 6 {
		t.Error("meld")
	}
	wantOrder(t, n, 2, 6, 1, 3, 4, 5, 0)
	wantOrder(t, n, 3)
	wantOrder(t, n, 4)
	wantOrder(t, n, 0)
	if h := n.Make(); h != 4 {
		t.Error(h)
	}
	wantOrder(t, n, 4)
}

// TestNestInOrder takes out what was put in by mixed entries, many of them the same: by entries, of like ones by slots.
func TestNestInOrder(t *testing.T) {
	for seed := range uint64(20) {
		roll := roller(seed)
		n := newNest(t, 60, 1)
		var in []int
		for slot := range n.Capacity() {
			if roll(5) > 0 && n.Insert(1, slot, api.Entry{Key: int64(roll(6)) - 3, Seq: uint64(roll(3))}) {
				in = append(in, slot)
			}
		}
		slices.SortStableFunc(in, func(a, b int) int {
			x, _ := n.Entry(a)
			y, _ := n.Entry(b)
			return entry.Compare(x, y)
		})
		wantOrder(t, n, 1, in...)
	}
}

// TestOneOrder: of two slots one alone is ahead, and whoever is ahead of one is ahead of all behind that.
func TestOneOrder(t *testing.T) {
	const slots = 30
	roll := roller(7)
	c := filled(t, slots, 3)
	for slot := range slots {
		wantPut(t, c, 1+roll(3), slot, api.Entry{Key: int64(roll(3)) - 1, Seq: uint64(roll(3)) << 63})
	}
	for a := range slots {
		for b := range slots {
			if a != b && c.Ahead(a, b) == c.Ahead(b, a) {
				t.Fatalf("of %d and %d not one alone is ahead", a, b)
			}
			for d := range slots {
				if c.Ahead(a, b) && c.Ahead(b, d) && !c.Ahead(a, d) {
					t.Fatalf("%d is ahead of %d, that of %d, but not %d of %d", a, b, d, a, d)
				}
			}
		}
	}
}

// plain is cells by what the chapter says alone: which heaps there are, and of each slot its heap (0: none) and its entry.
type plain struct {
	heaps   []bool
	home    []int
	entries []api.Entry
	steps   int
}

func (p *plain) hasHeap(h int) bool {
	return h >= 1 && h <= len(p.heaps) && p.heaps[h-1]
}

func (p *plain) hasSlot(slot int) bool {
	return slot >= 0 && slot < len(p.home)
}

func (p *plain) in(slot int) bool {
	return p.hasSlot(slot) && p.home[slot] != 0
}

func (p *plain) size(h int) int {
	size := 0
	for _, home := range p.home {
		if h != 0 && home == h {
			size++
		}
	}
	return size
}

// pair is cells, and plain ones that are asked the same.
type pair struct {
	t *testing.T
	c *Cells
	p *plain
}

func newPair(t *testing.T, capacity int) *pair {
	return &pair{t: t, c: fresh(t, capacity), p: &plain{home: make([]int, capacity), entries: make([]api.Entry, capacity)}}
}

func (x *pair) make() {
	x.p.heaps = append(x.p.heaps, true)
	if h := x.c.Make(); h != len(x.p.heaps) {
		x.t.Fatalf("Make() = %d, not %d", h, len(x.p.heaps))
	}
}

func (x *pair) put(h, slot int, e api.Entry) {
	want := x.p.hasHeap(h) && x.p.hasSlot(slot) && !x.p.in(slot)
	if want {
		x.p.home[slot], x.p.entries[slot] = h, e
	}
	if got := x.c.Put(h, slot, e); got != want {
		x.t.Fatalf("Put(%d, %d, %v) = %v", h, slot, e, got)
	}
}

func (x *pair) drop(slot int) {
	want := x.p.in(slot)
	if want {
		x.p.home[slot], x.p.entries[slot] = 0, api.Entry{}
	}
	if got := x.c.Drop(slot); got != want {
		x.t.Fatalf("Drop(%d) = %v", slot, got)
	}
}

func (x *pair) lower(slot int, e api.Entry) {
	want := x.p.in(slot) && entry.Compare(e, x.p.entries[slot]) <= 0
	if want {
		x.p.entries[slot] = e
	}
	if got := x.c.Lower(slot, e); got != want {
		x.t.Fatalf("Lower(%d, %v) = %v", slot, e, got)
	}
}

func (x *pair) join(a, b int) {
	want := a != b && x.p.hasHeap(a) && x.p.hasHeap(b)
	if want {
		x.p.heaps[b-1] = false
		for slot, home := range x.p.home {
			if home == b {
				x.p.home[slot] = a
			}
		}
	}
	if got := x.c.Join(a, b); got != want {
		x.t.Fatalf("Join(%d, %d) = %v", a, b, got)
	}
}

func (x *pair) ahead(a, b int) {
	want := false
	if x.p.in(a) && x.p.in(b) {
		x.p.steps++
		order := entry.Compare(x.p.entries[a], x.p.entries[b])
		want = order < 0 || order == 0 && a < b
	}
	if got := x.c.Ahead(a, b); got != want {
		x.t.Fatalf("Ahead(%d, %d) = %v", a, b, got)
	}
}

// ask holds all that can be asked without a change.
func (x *pair) ask() {
	x.t.Helper()
	wantSteps(x.t, x.c, x.p.steps)
	if got := x.c.Capacity(); got != len(x.p.home) {
		x.t.Fatalf("Capacity() = %d", got)
	}
	for h := -1; h <= len(x.p.heaps)+1; h++ {
		if x.c.Has(h) != x.p.hasHeap(h) || x.c.Len(h) != x.p.size(h) {
			x.t.Fatalf("heap %d: Has, Len: %v, %d, not %v, %d", h, x.c.Has(h), x.c.Len(h), x.p.hasHeap(h), x.p.size(h))
		}
	}
	for slot := -1; slot <= len(x.p.home); slot++ {
		home, in := x.c.Home(slot)
		e, ok := x.c.Entry(slot)
		if in != x.p.in(slot) || ok != in || !in && (home != 0 || e != api.Entry{}) {
			x.t.Fatalf("slot %d: %d, %v, %v, %v", slot, home, in, e, ok)
		}
		if in && (home != x.p.home[slot] || e != x.p.entries[slot]) {
			x.t.Fatalf("slot %d: %d, %v, not %d, %v", slot, home, e, x.p.home[slot], x.p.entries[slot])
		}
	}
}

// TestAllShortWays goes all ways of some calls upon few slots and heaps.
func TestAllShortWays(t *testing.T) {
	const capacity, heaps, length = 2, 2, 4
	choices := []func(x *pair){
		func(x *pair) { x.make() },
		func(x *pair) { x.join(1, 2) }, func(x *pair) { x.join(2, 1) }, func(x *pair) { x.join(1, 1) }, func(x *pair) { x.join(1, 3) },
		func(x *pair) { x.drop(0) }, func(x *pair) { x.drop(1) }, func(x *pair) { x.drop(2) },
		func(x *pair) { x.lower(0, key(1)) }, func(x *pair) { x.lower(1, key(2)) },
		func(x *pair) { x.put(1, 0, key(1)) }, func(x *pair) { x.put(1, 1, key(2)) }, func(x *pair) { x.put(2, 0, key(3)) },
		func(x *pair) { x.put(2, 1, key(2)) }, func(x *pair) { x.put(3, 0, key(2)) }, func(x *pair) { x.put(1, 2, key(2)) },
	}
	calls := make([]int, length)
	for more := true; more; more = next(calls, len(choices)) {
		x := newPair(t, capacity)
		for range heaps {
			x.make()
		}
		for _, call := range calls {
			choices[call](x)
		}
		x.ahead(0, 1)
		x.ahead(1, 0)
		x.ask()
	}
}

// next makes a way the next one, by its calls' numbers; false behind the last one.
func next(calls []int, choices int) bool {
	for i := range calls {
		calls[i]++
		if calls[i] < choices {
			return true
		}
		calls[i] = 0
	}
	return false
}

// roller tells numbers below n that hang on the seed alone.
func roller(seed uint64) func(n int) int {
	mix := seed*2654435761 + 12345
	return func(n int) int {
		mix = mix*6364136223846793005 + 1442695040888963407
		return int(mix>>33) % n
	}
}

// TestMixedWays goes long ways, whose calls hang on a number that is mixed again and again.
func TestMixedWays(t *testing.T) {
	for seed := range uint64(100) {
		roll := roller(seed)
		capacity := roll(40)
		x := newPair(t, capacity)
		slot := func() int { return roll(capacity+2) - 1 }
		heap := func() int { return roll(len(x.p.heaps) + 2) }
		some := func() api.Entry { return api.Entry{Key: int64(roll(9)) - 4, Seq: uint64(roll(3))} }
		for range 600 {
			switch roll(10) {
			case 0:
				x.make()
			case 1:
				x.join(heap(), heap())
			case 2:
				x.drop(slot())
			case 3, 4:
				x.lower(slot(), some())
			case 5, 6:
				x.ahead(slot(), slot())
			default:
				x.put(heap(), slot(), some())
			}
			if roll(9) == 0 {
				x.ask()
			}
		}
		x.ask()
		x.ask()
	}
}

func FuzzWays(f *testing.F) {
	f.Add(uint8(4), []byte{0, 0, 0, 0, 1, 0x10, 1, 0x21, 4, 0x12, 5, 0x01, 2, 0x00})
	f.Add(uint8(2), []byte{0, 0, 1, 0x10, 1, 0x11, 3, 0x10, 3, 0xf0, 5, 0x10, 2, 0x11})
	f.Add(uint8(0), []byte{0, 0, 1, 0x10, 4, 0x11})
	f.Fuzz(func(t *testing.T, capacity uint8, way []byte) {
		x := newPair(t, int(capacity%15))
		for len(way) >= 2 {
			call, a, b := way[0], int(way[1]>>4), int(way[1]&15)
			way = way[2:]
			e := api.Entry{Key: int64(call>>3) - 16, Seq: uint64(call >> 6)}
			switch call % 8 {
			case 0:
				x.make()
			case 1, 6, 7:
				x.put(a, b, e)
			case 2:
				x.drop(b)
			case 3:
				x.lower(b, e)
			case 4:
				x.join(a, b)
			case 5:
				x.ahead(a, b)
			}
		}
		x.ask()
	})
}

package arena

import (
	"slices"
	"testing"

	"haycock/api"
)

const (
	leastInt    = -1 << 63
	greatestInt = 1<<63 - 1
	greatestGen = 1<<32 - 1
)

// farSlots are in no arena; some of them would be in one in fewer bits.
var farSlots = []int{
	leastInt, leastInt + 1, -1 << 32, -1<<32 + 1, -1 << 16, -2, -1,
	1 << 16, 1<<16 + 1, 1 << 31, 1 << 32, 1<<32 + 1, 1 << 62, greatestInt - 1, greatestInt,
}

// someGens are those around the edges of 8, 16, 31 and 32 bits.
var someGens = []uint32{0, 1, 2, 3, 4, 255, 256, 257, 1<<16 - 1, 1 << 16, 1<<16 + 1, 1<<31 - 1, 1 << 31, greatestGen - 1, greatestGen}

// made is a new arena of which it is known that it can be.
func made(t *testing.T, capacity int, most uint32) *Arena {
	t.Helper()
	a, e := New(capacity, most)
	if e != api.OK || a == nil {
		t.Fatalf("New(%d, %d) = %v, %d", capacity, most, a, e)
	}
	return a
}

// wantTake takes, and asks for that handle.
func wantTake(t *testing.T, a *Arena, slot int, gen uint32) {
	t.Helper()
	want := api.Handle{Slot: slot, Gen: gen}
	if h, e := a.Take(); h != want || e != api.OK {
		t.Fatalf("Take() = %v, %d, not %v", h, e, want)
	}
}

// wantGive gives back what must be live, and no more then.
func wantGive(t *testing.T, a *Arena, slot int, gen uint32) {
	t.Helper()
	h := api.Handle{Slot: slot, Gen: gen}
	if !a.Live(h) {
		t.Fatalf("%v isn't live", h)
	}
	if e := a.Give(h); e != api.OK {
		t.Fatalf("Give(%v) = %d", h, e)
	}
	if e := a.Give(h); e != api.ErrStale || a.Live(h) {
		t.Fatalf("a second Give(%v) = %d", h, e)
	}
}

// wantFull asks for nothing, twice: the first answer changes nothing.
func wantFull(t *testing.T, a *Arena) {
	t.Helper()
	for range 2 {
		if h, e := a.Take(); h != (api.Handle{}) || e != api.ErrFull {
			t.Fatalf("Take() = %v, %d, not full", h, e)
		}
	}
	if got := a.Usable(); got != 0 {
		t.Fatalf("full, yet %d are usable", got)
	}
}

// wantCounts asks for the three numbers.
func wantCounts(t *testing.T, a *Arena, capacity, count, usable int) {
	t.Helper()
	if a.Capacity() != capacity || a.Count() != count || a.Usable() != usable {
		t.Fatalf("Capacity, Count, Usable: %d, %d, %d, not %d, %d, %d", a.Capacity(), a.Count(), a.Usable(), capacity, count, usable)
	}
}

func TestNewOfNone(t *testing.T) {
	for _, n := range []int{
		leastInt, leastInt + 1, -1 << 32, -65536, -2, -1,
		65537, 65538, 1 << 17, 1 << 31, 1 << 32, 1<<32 + 1, 1 << 62, greatestInt - 1, greatestInt,
	} {
		for _, most := range someGens {
			if a, e := New(n, most); a != nil || e != api.ErrRange {
				t.Errorf("New(%d, %d) = %v, %d", n, most, a, e)
			}
		}
	}
	for _, n := range []int{0, 1, 5, 65535, 65536} {
		if a, e := New(n, 0); a != nil || e != api.ErrRange {
			t.Errorf("New(%d, 0) = %v, %d", n, a, e)
		}
	}
}

func TestNew(t *testing.T) {
	for _, n := range []int{0, 1, 2, 3, 100, 65535, 65536} {
		for _, most := range someGens[1:] {
			a := made(t, n, most)
			wantCounts(t, a, n, 0, n)
			for slot := range min(n, 4) {
				for _, gen := range someGens {
					wantStale(t, a, api.Handle{Slot: slot, Gen: gen})
				}
			}
			wantNowhere(t, a, n)
		}
	}
}

// wantStale asks whether a handle is refused, and changes nothing.
func wantStale(t *testing.T, a *Arena, h api.Handle) {
	t.Helper()
	count, usable := a.Count(), a.Usable()
	if a.Live(h) {
		t.Errorf("%v is live", h)
	}
	if e := a.Give(h); e != api.ErrStale {
		t.Errorf("Give(%v) = %d", h, e)
	}
	wantCounts(t, a, a.Capacity(), count, usable)
}

// wantNowhere asks for slots that aren't there: that behind the last one, and far ones.
func wantNowhere(t *testing.T, a *Arena, capacity int) {
	t.Helper()
	for _, slot := range append([]int{capacity, capacity + 1}, farSlots...) {
		if slot >= 0 && slot < capacity {
			continue
		}
		if h, ok := a.At(slot); ok || h != (api.Handle{}) {
			t.Errorf("At(%d) = %v, %v", slot, h, ok)
		}
		for _, gen := range []uint32{0, 1, greatestGen} {
			wantStale(t, a, api.Handle{Slot: slot, Gen: gen})
		}
	}
}

// TestExample: one slot with two generations.
func TestExample(t *testing.T) {
	a := made(t, 1, 2)
	wantTake(t, a, 0, 1)
	wantFull(t, a)
	wantGive(t, a, 0, 1)
	wantTake(t, a, 0, 2)
	wantGive(t, a, 0, 2)
	wantCounts(t, a, 1, 0, 0)
	for range 5 {
		wantFull(t, a)
		wantStale(t, a, api.Handle{Slot: 0, Gen: 1})
		wantStale(t, a, api.Handle{Slot: 0, Gen: 2})
		wantStale(t, a, api.Handle{Slot: 0, Gen: 3})
		wantStale(t, a, api.Handle{})
	}
}

func TestEmptyArena(t *testing.T) {
	a := made(t, 0, greatestGen)
	wantFull(t, a)
	wantCounts(t, a, 0, 0, 0)
	wantNowhere(t, a, 0)
	wantStale(t, a, api.Handle{})
	wantStale(t, a, api.Handle{Gen: 1})
	wantFull(t, a)
}

// TestTakeInOrder: the last one that came back goes out first, ahead of those that were never out, which rise.
func TestTakeInOrder(t *testing.T) {
	a := made(t, 6, 9)
	for slot := range 4 {
		wantTake(t, a, slot, 1)
	}
	wantCounts(t, a, 6, 4, 2)
	for _, slot := range []int{1, 3, 0} {
		wantGive(t, a, slot, 1)
	}
	wantCounts(t, a, 6, 1, 5)
	wantTake(t, a, 0, 2)
	wantTake(t, a, 3, 2)
	wantGive(t, a, 2, 1)
	wantTake(t, a, 2, 2)
	wantTake(t, a, 1, 2)
	wantTake(t, a, 4, 1)
	wantGive(t, a, 3, 2)
	wantTake(t, a, 3, 3)
	wantTake(t, a, 5, 1)
	wantFull(t, a)
	wantCounts(t, a, 6, 6, 0)
	wantGive(t, a, 4, 1)
	wantGive(t, a, 5, 1)
	wantTake(t, a, 5, 2)
	wantTake(t, a, 4, 2)
	wantFull(t, a)
}

// TestWornOut: a slot whose greatest generation came back doesn't wait; the others do.
func TestWornOut(t *testing.T) {
	a := made(t, 3, 2)
	wantTake(t, a, 0, 1)
	wantTake(t, a, 1, 1)
	wantGive(t, a, 0, 1)
	wantTake(t, a, 0, 2)
	wantGive(t, a, 1, 1)
	wantCounts(t, a, 3, 1, 2)
	wantGive(t, a, 0, 2)
	wantCounts(t, a, 3, 0, 2)
	wantTake(t, a, 1, 2)
	wantTake(t, a, 2, 1)
	wantFull(t, a)
	wantCounts(t, a, 3, 2, 0)
	wantGive(t, a, 1, 2)
	wantFull(t, a)
	wantGive(t, a, 2, 1)
	wantTake(t, a, 2, 2)
	wantGive(t, a, 2, 2)
	wantFull(t, a)
	wantCounts(t, a, 3, 0, 0)
	for slot := range 3 {
		if h, ok := a.At(slot); ok || h != (api.Handle{}) {
			t.Errorf("At(%d) = %v, %v of a slot that is worn out", slot, h, ok)
		}
	}
}

// TestOneGeneration: each slot goes out once, and the next one doesn't wait for it.
func TestOneGeneration(t *testing.T) {
	a := made(t, 300, 1)
	for slot := range 300 {
		wantCounts(t, a, 300, 0, 300-slot)
		wantTake(t, a, slot, 1)
		wantCounts(t, a, 300, 1, 299-slot)
		wantGive(t, a, slot, 1)
	}
	wantFull(t, a)
}

// TestLiveAndAt asks of each slot which one of its handles is live.
func TestLiveAndAt(t *testing.T) {
	a := made(t, 5, greatestGen)
	for slot := range 4 {
		wantTake(t, a, slot, 1)
	}
	wantGive(t, a, 1, 1)
	wantGive(t, a, 2, 1)
	wantTake(t, a, 2, 2)
	wantGive(t, a, 2, 2)
	wantTake(t, a, 2, 3)
	for slot, want := range []uint32{1, 0, 3, 1, 0} {
		h, ok := a.At(slot)
		if ok != (want != 0) || ok && h != (api.Handle{Slot: slot, Gen: want}) || !ok && h != (api.Handle{}) {
			t.Errorf("At(%d) = %v, %v", slot, h, ok)
		}
		for _, gen := range someGens {
			h := api.Handle{Slot: slot, Gen: gen}
			if want == 0 || gen != want {
				wantStale(t, a, h)
			} else if !a.Live(h) {
				t.Errorf("%v isn't live", h)
			}
		}
	}
	wantNowhere(t, a, 5)
	wantCounts(t, a, 5, 3, 2)
	wantTake(t, a, 1, 2)
	wantTake(t, a, 4, 1)
	wantFull(t, a)
}

// TestGenerationsRise goes beyond what 8 and 16 bits hold.
func TestGenerationsRise(t *testing.T) {
	a := made(t, 2, greatestGen)
	for i := range 1<<17 + 3 {
		wantTake(t, a, 0, uint32(i+1))
		wantGive(t, a, 0, uint32(i+1))
	}
	wantCounts(t, a, 2, 0, 2)
	b := made(t, 1, 1<<16+1)
	for i := range 1<<16 + 1 {
		wantTake(t, b, 0, uint32(i+1))
		wantGive(t, b, 0, uint32(i+1))
	}
	wantFull(t, b)
}

// TestGreatestGeneration sets the generation near to the end of 32 bits, for the way there is long.
func TestGreatestGeneration(t *testing.T) {
	a := made(t, 1, greatestGen)
	wantTake(t, a, 0, 1)
	wantGive(t, a, 0, 1)
	a.used[0].gen = greatestGen - 2
	wantTake(t, a, 0, greatestGen-1)
	wantGive(t, a, 0, greatestGen-1)
	wantCounts(t, a, 1, 0, 1)
	wantTake(t, a, 0, greatestGen)
	wantGive(t, a, 0, greatestGen)
	wantFull(t, a)
	wantStale(t, a, api.Handle{})
	wantStale(t, a, api.Handle{Gen: 1})
}

// TestGreatestCapacity takes all slots there can be, and gives them back from both ends.
func TestGreatestCapacity(t *testing.T) {
	const n = 65536
	a := made(t, n, 2)
	for slot := range n {
		wantTake(t, a, slot, 1)
	}
	wantFull(t, a)
	wantCounts(t, a, n, n, 0)
	if h, ok := a.At(n - 1); !ok || h != (api.Handle{Slot: n - 1, Gen: 1}) {
		t.Errorf("At the last slot %v, %v", h, ok)
	}
	for i := range n / 2 {
		wantGive(t, a, i, 1)
		wantGive(t, a, n-1-i, 1)
	}
	wantCounts(t, a, n, 0, n)
	for i := n/2 - 1; i >= 0; i-- {
		wantTake(t, a, n-1-i, 2)
		wantTake(t, a, i, 2)
	}
	for slot := range n {
		wantGive(t, a, slot, 2)
	}
	wantFull(t, a)
	wantNowhere(t, a, n)
}

// TestArenasApart: what is done to one arena is nothing to another one (P2).
func TestArenasApart(t *testing.T) {
	a, b := made(t, 2, 3), made(t, 2, 3)
	wantTake(t, a, 0, 1)
	wantStale(t, b, api.Handle{Gen: 1})
	wantTake(t, b, 0, 1)
	wantTake(t, b, 1, 1)
	wantGive(t, b, 0, 1)
	wantTake(t, a, 1, 1)
	wantFull(t, a)
	wantTake(t, b, 0, 2)
	wantCounts(t, a, 2, 2, 0)
	wantCounts(t, b, 2, 2, 0)
	wantStale(t, a, api.Handle{Gen: 2})
}

// plain is an arena by what the chapter says alone: how often each slot went
// out, whether it is out, and when it came back last.
type plain struct {
	most uint32
	outs []uint32
	out  []bool
	back []int
	now  int
}

func newPlain(capacity int, most uint32) *plain {
	return &plain{most: most, outs: make([]uint32, capacity), out: make([]bool, capacity), back: make([]int, capacity)}
}

func (p *plain) waits(slot int) bool {
	return p.outs[slot] > 0 && !p.out[slot] && p.outs[slot] != p.most
}

func (p *plain) take() (api.Handle, api.Errno) {
	best := -1
	for slot := range p.outs {
		if p.waits(slot) && (best < 0 || p.back[slot] > p.back[best]) {
			best = slot
		}
	}
	if best < 0 {
		best = slices.Index(p.outs, 0)
	}
	if best < 0 {
		return api.Handle{}, api.ErrFull
	}
	p.outs[best]++
	p.out[best] = true
	return api.Handle{Slot: best, Gen: p.outs[best]}, api.OK
}

func (p *plain) isLive(h api.Handle) bool {
	return h.Slot >= 0 && h.Slot < len(p.outs) && p.out[h.Slot] && p.outs[h.Slot] == h.Gen
}

func (p *plain) give(h api.Handle) api.Errno {
	if !p.isLive(h) {
		return api.ErrStale
	}
	p.now++
	p.out[h.Slot], p.back[h.Slot] = false, p.now
	return api.OK
}

func (p *plain) count() (live, usable int) {
	for slot := range p.outs {
		if p.out[slot] {
			live++
		}
		if p.waits(slot) || p.outs[slot] == 0 {
			usable++
		}
	}
	return live, usable
}

// pair is an arena, and a plain one that is asked the same.
type pair struct {
	t   *testing.T
	a   *Arena
	p   *plain
	had map[api.Handle]bool
}

func newPair(t *testing.T, capacity int, most uint32) *pair {
	return &pair{t: t, a: made(t, capacity, most), p: newPlain(capacity, most), had: map[api.Handle]bool{}}
}

func (x *pair) take() bool {
	h, e := x.a.Take()
	if want, f := x.p.take(); h != want || e != f {
		x.t.Fatalf("Take() = %v, %d, not %v, %d", h, e, want, f)
	}
	if e == api.OK && x.had[h] {
		x.t.Fatalf("%v was given out twice", h)
	}
	x.had[h] = true
	return e == api.OK
}

func (x *pair) give(h api.Handle) {
	live := x.a.Live(h)
	e := x.a.Give(h)
	if want := x.p.give(h); e != want || live != (want == api.OK) {
		x.t.Fatalf("Give(%v) = %d, not %d; live: %v", h, e, want, live)
	}
}

// ask holds all that can be asked without a change.
func (x *pair) ask() {
	live, usable := x.p.count()
	wantCounts(x.t, x.a, len(x.p.outs), live, usable)
	for slot := -1; slot <= len(x.p.outs); slot++ {
		h, ok := x.a.At(slot)
		want := api.Handle{}
		wantOK := slot >= 0 && slot < len(x.p.outs) && x.p.out[slot]
		if wantOK {
			want = api.Handle{Slot: slot, Gen: x.p.outs[slot]}
		}
		if h != want || ok != wantOK {
			x.t.Fatalf("At(%d) = %v, %v, not %v", slot, h, ok, want)
		}
		for gen := range uint32(5) {
			h := api.Handle{Slot: slot, Gen: gen}
			if got := x.a.Live(h); got != x.p.isLive(h) {
				x.t.Fatalf("Live(%v) = %v", h, got)
			}
		}
	}
}

// drain takes till none is left: as many as were told to be usable.
func (x *pair) drain() {
	usable := x.a.Usable()
	for range usable {
		if !x.take() {
			x.t.Fatalf("fewer than %d were usable", usable)
		}
	}
	if x.take() {
		x.t.Fatalf("more than %d were usable", usable)
	}
	x.ask()
}

// TestAllShortWays goes all ways of some calls upon small arenas.
func TestAllShortWays(t *testing.T) {
	const length = 6
	for capacity := range 4 {
		var gives []api.Handle
		for slot := range capacity {
			for gen := uint32(1); gen <= 2; gen++ {
				gives = append(gives, api.Handle{Slot: slot, Gen: gen})
			}
		}
		for most := uint32(1); most <= 3; most++ {
			way := make([]int, length)
			for more := true; more; more = step(way, len(gives)+1) {
				x := newPair(t, capacity, most)
				for _, call := range way {
					if call == len(gives) {
						x.take()
					} else {
						x.give(gives[call])
					}
				}
				x.ask()
				x.drain()
			}
		}
	}
}

// step makes a way the next one, by its calls' numbers; false behind the last one.
func step(way []int, calls int) bool {
	for i := range way {
		way[i]++
		if way[i] < calls {
			return true
		}
		way[i] = 0
	}
	return false
}

// TestLongWays goes long ways, whose calls hang on a number that is mixed again and again.
func TestLongWays(t *testing.T) {
	for seed := range uint64(60) {
		mix := seed*2654435761 + 12345
		roll := func(n int) int {
			mix = mix*6364136223846793005 + 1442695040888963407
			return int(mix>>33) % n
		}
		capacity := 1 + roll(40)
		x := newPair(t, capacity, uint32(1+roll(6)))
		fill := 2 + roll(5)
		for range 600 {
			if roll(fill+2) < fill {
				x.take()
			}
			h := api.Handle{Slot: roll(capacity+2) - 1, Gen: uint32(roll(7))}
			if live, ok := x.a.At(h.Slot); ok && roll(2) == 0 {
				h = live
			}
			x.give(h)
			x.ask()
		}
		x.drain()
	}
}

// TestAnswersStay asks twice: what only asks changes nothing (P2).
func TestAnswersStay(t *testing.T) {
	a := made(t, 4, 2)
	wantTake(t, a, 0, 1)
	wantTake(t, a, 1, 1)
	wantGive(t, a, 0, 1)
	for range 3 {
		wantCounts(t, a, 4, 1, 3)
		for slot := -1; slot < 5; slot++ {
			h, ok := a.At(slot)
			if ok != (slot == 1) || ok && h != (api.Handle{Slot: 1, Gen: 1}) || a.Live(h) != ok {
				t.Errorf("At(%d) = %v, %v", slot, h, ok)
			}
		}
	}
	wantTake(t, a, 0, 2)
	wantTake(t, a, 2, 1)
}

func FuzzWays(f *testing.F) {
	f.Add(uint8(1), uint8(2), []byte{0, 0, 9, 0, 17, 0})
	f.Add(uint8(3), uint8(2), []byte{0, 0, 0, 9, 11, 0, 0, 17, 19, 0, 8, 12})
	f.Add(uint8(0), uint8(1), []byte{0, 8, 9})
	f.Fuzz(func(t *testing.T, capacity, most uint8, way []byte) {
		x := newPair(t, int(capacity%16), uint32(most%5)+1)
		for _, call := range way {
			if call < 8 {
				x.take()
			} else {
				x.give(api.Handle{Slot: int(call%8)*2 - 1 + int(call>>7), Gen: uint32(call>>3) % 8})
			}
			x.ask()
		}
		x.drain()
	})
}

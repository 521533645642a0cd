package binomial

import (
	"math/bits"
	"slices"
	"testing"

	"haycock/api"
)

// most is the greatest capacity.
const most = 65536

// carries is how often two ones meet, as two numbers are added.
func carries(a, b int) int {
	return bits.OnesCount(uint(a)) + bits.OnesCount(uint(b)) - bits.OnesCount(uint(a+b))
}

// TestStepsOfCarries: one step is counted for each carry as the numbers of slots are added, and one for each root but one
// where the first of them is asked for; none where nothing is to be asked.
func TestStepsOfCarries(t *testing.T) {
	const count = 130
	for a := range count {
		w := fresh(t, 2*count+1, 2)
		w.fill(1, 0, mixed(a)...)
		if got := w.took(func() { w.Min(1) }); got != max(0, bits.OnesCount(uint(a))-1) {
			t.Fatalf("Min of %d slots took %d steps", a, got)
		}
		if got := w.took(func() { w.insert(1, a, 50) }); got != carries(a, 1) {
			t.Fatalf("Insert to %d slots took %d steps", a, got)
		}
		b := count - a
		w.fill(2, a+1, mixed(b)...)
		if got := w.took(func() { w.meld(1, 2) }); got != carries(a+1, b) {
			t.Fatalf("Meld of %d and %d slots took %d steps", a+1, b, got)
		}
		w.bounded(0, func() {
			w.Degrees(1)
			w.Degrees(2)
			w.Make()
			w.Has(1)
			w.Len(1)
			w.Home(0)
			w.Entry(0)
			w.Capacity()
		})
	}
}

// TestStepsOfDecrease: each slot above one is asked once, up to the first one that stays above it.
func TestStepsOfDecrease(t *testing.T) {
	w := fresh(t, 16, 1)
	w.fill(1, 0, keysOf(16, func(i int) int { return 10 * i })...)
	last := 0
	for kids := w.forest.cubes.Kids(0); len(kids) > 0; kids = w.forest.cubes.Kids(last) {
		last = kids[len(kids)-1]
	}
	above := func(slot int) int {
		p, ok := w.forest.cubes.Up(slot)
		if !ok {
			t.Fatalf("nothing is above %d", slot)
		}
		return p
	}
	second := above(above(last))
	if above(above(second)) != 0 {
		t.Fatalf("%d is not four below the first one", last)
	}
	for _, try := range []struct {
		to    int64
		steps int
	}{{int64(10 * last), 1}, {int64(10*second + 1), 2}, {int64(10*above(second) - 1), 3}, {-1, 1}, {-2, 0}} {
		if got := w.took(func() { w.decrease(last, try.to) }); got != try.steps {
			t.Errorf("Decrease to %d took %d steps, not %d", try.to, got, try.steps)
		}
		w.wantShape(1)
	}
	w.wantFirst(1, last)
}

// TestStepsOfFalse: a call that answers false takes no more steps than it may, and changes nothing.
func TestStepsOfFalse(t *testing.T) {
	w := fresh(t, 302, 4)
	w.fill(1, 0, mixed(200)...)
	w.fill(2, 200, mixed(100)...)
	w.meld(3, 4)
	first, second := slices.Clone(w.rows[1]), slices.Clone(w.rows[2])
	for _, slot := range append([]int{300, 301, 302}, farNumbers...) {
		w.within(limit(0), false, func() bool { return w.Delete(slot) })
		w.within(limit(0), false, func() bool { return w.Decrease(slot, api.Entry{Key: -9}) })
	}
	for _, h := range append([]int{0, 4, 5}, farNumbers...) {
		w.within(limit(0), false, func() bool { slot, ok := w.Min(h); return ok || slot != 0 })
		w.within(limit(0), false, func() bool { slot, ok := w.Extract(h); return ok || slot != 0 })
		w.within(limit(0), false, func() bool { return w.Insert(h, 300, api.Entry{}) })
		w.within(limit(200), false, func() bool { return w.Meld(1, h) })
		w.within(limit(100), false, func() bool { return w.Meld(h, 2) })
		w.within(limit(0), false, func() bool { return w.Meld(h, h) })
	}
	for _, slot := range append([]int{0, 199, 200, 299, 302}, farNumbers...) {
		w.within(limit(200), false, func() bool { return w.Insert(1, slot, api.Entry{Key: -9}) })
	}
	w.within(limit(0), false, func() bool { slot, ok := w.Extract(3); return ok || slot != 0 })
	w.within(limit(200), false, func() bool { return w.Decrease(5, api.Entry{Key: 100}) })
	w.within(limit(200), false, func() bool { return w.Meld(1, 1) })
	if !slices.Equal(w.rows[1], first) || !slices.Equal(w.rows[2], second) || w.Len(1) != 200 || w.Len(2) != 100 || w.Make() != 5 {
		t.Error("something was changed")
	}
	w.wantShape(5)
}

// TestGreatest: one cube of all slots there can be. Its slots come up and out from its depths, from its top and between.
func TestGreatest(t *testing.T) {
	for _, step := range []int{1, -1, 40503} {
		w := fresh(t, most, 1)
		w.fill(1, 0, keysOf(most, func(i int) int { return i })...)
		if got := w.Degrees(1); !slices.Equal(got, []int{16}) {
			t.Fatalf("Degrees(1) = %v", got)
		}
		slotAt := func(i int) int { return (i*step%most + most) % most }
		for i := range most {
			w.decrease(slotAt(i), int64(-i))
			if i%1000 == 0 {
				w.wantFirst(1, slotAt(i))
			}
		}
		w.wantShape(1)
		for i := range most / 2 {
			w.remove(slotAt(2 * i))
		}
		w.wantShape(1)
		for i := most - 1; i > 0; i -= 2 {
			w.extract(1, slotAt(i))
		}
		if w.Len(1) != 0 || !w.Has(1) {
			t.Fatalf("%d slots are left", w.Len(1))
		}
	}
}

// TestAllOnes: as many slots as have the most roots; one more is carried through all of them, and what comes off makes them
// be again.
func TestAllOnes(t *testing.T) {
	forOrders(most, func(keys []int64) {
		w := fresh(t, most, 1)
		w.fill(1, 0, keys[:most-1]...)
		if got := w.Degrees(1); !slices.Equal(got, places(most-1)) || len(got) != 16 {
			t.Fatalf("Degrees(1) = %v", got)
		}
		for range 20 {
			if got := w.took(func() { w.insert(1, most-1, keys[most-1]) }); got != 16 {
				t.Fatalf("Insert took %d steps", got)
			}
			w.remove(most - 1)
		}
		w.wantShape(1)
		w.insert(1, most-1, keys[most-1])
		for _, slot := range byKeys(keys)[:1000] {
			w.extract(1, slot)
		}
		w.wantShape(1)
	})
}

// TestMeldOfLikes melds heaps of one size each, by twos: all their roots meet.
func TestMeldOfLikes(t *testing.T) {
	const each = 7
	heaps := most / 8
	w := fresh(t, most, heaps)
	for h := range heaps {
		for i := range each {
			w.insert(h+1, h*each+i, int64(i*heaps+h))
		}
	}
	for apart := 1; apart < heaps; apart *= 2 {
		for h := 1; h <= heaps; h += 2 * apart {
			w.meld(h, h+apart)
		}
	}
	w.wantShape(heaps)
	for i := range each * heaps {
		w.extract(1, i%heaps*each+i/heaps)
	}
}

// roller tells numbers below n that hang on the seed alone.
func roller(seed uint64) func(n int) int {
	mix := seed*2654435761 + 12345
	return func(n int) int {
		mix = mix*6364136223846793005 + 1442695040888963407
		return int(mix>>33) % n
	}
}

// TestMixedWays holds the shape behind each of many calls, which hang on a number that is mixed again and again.
func TestMixedWays(t *testing.T) {
	for seed := range uint64(60) {
		roll := roller(seed)
		capacity, heaps := 1+roll(60), 1+roll(5)
		w := fresh(t, capacity, heaps)
		for range 400 {
			h, other, slot := roll(heaps+2), roll(heaps+2), roll(capacity+2)-1
			e := api.Entry{Key: int64(roll(40)), Seq: uint64(roll(2))}
			in, inBoth, inHome := limit(w.Len(h)), limit(w.Len(h)+w.Len(other)), limit(w.inHome(slot))
			switch roll(12) {
			case 0:
				w.bounded(in, func() { w.Extract(h) })
			case 1:
				w.bounded(inHome, func() { w.Delete(slot) })
			case 2, 3, 4:
				w.bounded(inHome, func() { w.Decrease(slot, e) })
			case 5:
				w.bounded(inBoth, func() { w.Meld(h, other) })
			case 6:
				heaps++
				w.within(0, true, func() bool { return w.Make() == heaps })
			default:
				w.bounded(in, func() { w.Insert(h, slot, e) })
			}
			w.wantShape(heaps)
		}
	}
}

package binomial

import (
	"cmp"
	"slices"
	"testing"

	"haycock/api"
)

// farNumbers are of no slot and of no heap; some of them would be of one in fewer bits.
var farNumbers = []int{
	-1 << 63, -1<<63 + 1, -1 << 32, -65536, -65535, -2, -1, 65537, 65538, 1<<31 - 1, 1 << 32, 1<<32 + 1, 1<<63 - 1,
}

// places is the places of the ones among a number's binary digits, rising.
func places(n int) []int {
	var all []int
	for place := 0; n > 0; place, n = place+1, n/2 {
		if n%2 == 1 {
			all = append(all, place)
		}
	}
	return all
}

// byKeys is the slots as they should come out, of which slot i has the key keys[i].
func byKeys(keys []int64) []int {
	all := make([]int, len(keys))
	for i := range all {
		all[i] = i
	}
	slices.SortStableFunc(all, func(a, b int) int { return cmp.Compare(keys[a], keys[b]) })
	return all
}

// keysOf is so many keys, each told by its place.
func keysOf(count int, key func(i int) int) []int64 {
	keys := make([]int64, count)
	for i := range keys {
		keys[i] = int64(key(i))
	}
	return keys
}

// mixed is keys below 100, some of them alike.
func mixed(count int) []int64 {
	return keysOf(count, func(i int) int { return i * 7919 % 1009 % 100 })
}

// forOrders runs a test on keys that come in several orders.
func forOrders(count int, test func(keys []int64)) {
	for _, key := range []func(i int) int{
		func(i int) int { return i },
		func(i int) int { return -i },
		func(int) int { return 0 },
		func(i int) int { return i * (1 - 2*(i%2)) },
	} {
		test(keysOf(count, key))
	}
	test(mixed(count))
}

// TestNew: all edges of what a capacity may be.
func TestNew(t *testing.T) {
	for _, capacity := range farNumbers {
		if n, e := New(capacity); n != nil || e != api.ErrRange {
			t.Errorf("New(%d) = %v, %d", capacity, n, e)
		}
	}
	for _, capacity := range []int{0, 1, 2, 65535, 65536} {
		w := fresh(t, capacity, 0)
		for _, x := range append([]int{0, 1, capacity - 1, capacity}, farNumbers...) {
			_, some := w.Min(x)
			_, in := w.Home(x)
			if w.Has(x) || w.Len(x) != 0 || some || in || len(w.Degrees(x)) != 0 {
				t.Errorf("New(%d) has %d", capacity, x)
			}
		}
		if w.Steps() != 0 {
			t.Errorf("New(%d) took %d steps", capacity, w.Steps())
		}
	}
}

// TestExample is the chapter's.
func TestExample(t *testing.T) {
	w := fresh(t, 13, 1)
	w.fill(1, 0, mixed(13)...)
	if got := w.Degrees(1); !slices.Equal(got, []int{0, 2, 3}) {
		t.Errorf("Degrees(1) = %v", got)
	}
	w.wantOut(1, byKeys(mixed(13))...)
}

// TestDegrees: of all sizes up to one, as a heap grows and as it gets less from its front and from anywhere.
func TestDegrees(t *testing.T) {
	const most = 600
	forOrders(most, func(keys []int64) {
		w := fresh(t, most, 2)
		want := func(in int) {
			t.Helper()
			if got := w.Degrees(2); w.Len(2) != in || !slices.Equal(got, places(in)) {
				t.Fatalf("Degrees(2) = %v of %d slots", got, in)
			}
		}
		want(0)
		for slot, k := range keys {
			w.insert(2, slot, k)
			want(slot + 1)
		}
		for in := most; in > most/2; in-- {
			slot, _ := w.Min(2)
			w.extract(2, slot)
			want(in - 1)
		}
		for i, in := 0, most/2; in > 0; i++ {
			slot := i * 371 % most
			if _, ok := w.Home(slot); ok {
				w.remove(slot)
				in--
			}
			want(in)
		}
	})
}

// TestDegreesOfNone: there are none where nothing is in a heap, nor where there is no such heap.
func TestDegreesOfNone(t *testing.T) {
	w := fresh(t, 10, 5)
	w.fill(1, 0, 3, 1, 2)
	w.fill(2, 3, 6, 5, 4)
	w.fill(3, 6, 9)
	w.fill(4, 7, 9)
	w.meld(1, 2)
	w.remove(6)
	w.extract(4, 7)
	for _, h := range append([]int{0, 2, 3, 4, 5, 6}, farNumbers...) {
		if got := w.Degrees(h); len(got) != 0 {
			t.Errorf("Degrees(%d) = %v", h, got)
		}
	}
	if got := w.Degrees(1); !slices.Equal(got, []int{1, 2}) {
		t.Errorf("Degrees(1) = %v", got)
	}
	w.wantShape(5)
}

// TestDegreesAreNew: what was answered may be written over and added to, and no later call can tell.
func TestDegreesAreNew(t *testing.T) {
	w := fresh(t, 64, 1)
	w.fill(1, 0, mixed(45)...)
	first, second := w.Degrees(1), w.Degrees(1)
	for i := range first {
		first[i] = -7
	}
	for len(first) < cap(first) {
		first = append(first, -7)
	}
	want := []int{0, 2, 3, 5}
	if !slices.Equal(second, want) || !slices.Equal(w.Degrees(1), want) {
		t.Errorf("Degrees(1) = %v, %v, not %v", second, w.Degrees(1), want)
	}
	w.wantShape(1)
	w.insert(1, 45, 3)
	if !slices.Equal(second, want) {
		t.Errorf("what was answered is %v, not %v", second, want)
	}
	w.wantOut(1, byKeys(append(mixed(45), 3))...)
}

// TestOut: of sizes about powers of two, all comes out in order.
func TestOut(t *testing.T) {
	for _, count := range []int{0, 1, 2, 3, 4, 6, 7, 8, 14, 15, 16, 17, 63, 64, 500} {
		forOrders(count, func(keys []int64) {
			w := fresh(t, count, 1)
			for slot, k := range keys {
				w.insert(1, slot, k)
				w.wantShape(1)
			}
			w.wantOut(1, byKeys(keys)...)
		})
	}
}

// TestEachPlace: one slot, at each place of a heap, comes to be the first one, or to be about the middle, or comes out.
func TestEachPlace(t *testing.T) {
	const count = 70
	forOrders(count, func(keys []int64) {
		for slot := range count {
			for _, to := range []int64{-1000, keys[slot] - 3, (keys[slot] - 70) / 2} {
				w := fresh(t, count, 1)
				w.fill(1, 0, keys...)
				now := slices.Clone(keys)
				now[slot] = min(to, keys[slot])
				w.decrease(slot, now[slot])
				w.wantShape(1)
				w.wantOut(1, byKeys(now)...)
			}
			w := fresh(t, count, 1)
			w.fill(1, 0, keys...)
			w.remove(slot)
			w.wantShape(1)
			w.wantOut(1, slices.DeleteFunc(byKeys(keys), func(x int) bool { return x == slot })...)
		}
	})
}

// TestMeld: of heaps of all sizes up to one the numbers of slots are added, whichever is the first one.
func TestMeld(t *testing.T) {
	const most = 35
	for a := range most {
		for b := range most {
			w := fresh(t, a+b, 2)
			keys := mixed(a + b)
			w.fill(1, 0, keys[:a]...)
			w.fill(2, a, keys[a:]...)
			w.meld(2, 1)
			if got := w.Degrees(2); w.Has(1) || len(w.Degrees(1)) != 0 || !slices.Equal(got, places(a+b)) {
				t.Fatalf("Meld of %d and %d slots: %v", b, a, got)
			}
			w.wantShape(2)
			w.wantOut(2, byKeys(keys)...)
		}
	}
}

// TestSlotAgain: a slot that came out from below others comes in again as one without children, in any heap.
func TestSlotAgain(t *testing.T) {
	const count = 16
	for slot := range count {
		w := fresh(t, count, 2)
		w.fill(1, 0, mixed(count)...)
		w.remove(slot)
		w.insert(2, slot, 50)
		w.wantShape(2)
		w.remove(slot)
		w.insert(1, slot, -1)
		w.wantFirst(1, slot)
		w.wantShape(2)
	}
}

// TestNothingIsKept: of a heap with nothing in it nothing is kept.
func TestNothingIsKept(t *testing.T) {
	w := fresh(t, 4, 4)
	w.fill(1, 0, 1, 2)
	w.fill(2, 2, 3)
	w.meld(3, 4)
	w.meld(3, 1)
	w.meld(2, 3)
	if len(w.rows) != 1 {
		t.Fatalf("%d heaps are kept, not one", len(w.rows))
	}
	w.remove(1)
	w.wantOut(2, 0, 2)
	if len(w.rows) != 0 {
		t.Errorf("%d heaps are kept, though nothing is in them", len(w.rows))
	}
}

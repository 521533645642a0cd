package nests

import (
	"testing"

	"haycock/api"
)

// TestAllShortWays goes all ways of some calls upon few slots and heaps.
func TestAllShortWays(t *testing.T) {
	const length = 4
	choices := []func(x *pair){
		func(x *pair) { x.make() },
		func(x *pair) { x.insert(1, 0, key(1)) }, func(x *pair) { x.insert(1, 1, key(2)) }, func(x *pair) { x.insert(1, 2, key(1)) },
		func(x *pair) { x.insert(2, 0, key(2)) }, func(x *pair) { x.insert(2, 1, key(1)) }, func(x *pair) { x.insert(3, 2, key(0)) },
		func(x *pair) { x.extract(1) }, func(x *pair) { x.extract(2) }, func(x *pair) { x.extract(3) },
		func(x *pair) { x.decrease(0, key(1)) }, func(x *pair) { x.decrease(1, key(0)) },
		func(x *pair) { x.delete(0) }, func(x *pair) { x.delete(1) }, func(x *pair) { x.delete(3) },
		func(x *pair) { x.meld(1, 2) }, func(x *pair) { x.meld(2, 1) }, func(x *pair) { x.meld(1, 1) },
	}
	forFew(t, func(t *testing.T, k kind) {
		way := make([]int, length)
		for more := true; more; more = next(way, len(choices)) {
			x := newPair(t, k, 3, 2)
			for _, call := range way {
				choices[call](x)
			}
			x.ask()
			x.drainAll()
		}
	})
}

// next makes a way the next one, by its calls' numbers; false behind the last one.
func next(way []int, choices int) bool {
	for i := range way {
		way[i]++
		if way[i] < choices {
			return true
		}
		way[i] = 0
	}
	return false
}

// mix does some calls that hang on rolls; more of them bring slots in than take them out, or fewer, as it swings.
func (x *pair) mix(roll func(n int) int, length int) {
	capacity := len(x.p.home)
	slot := func() int { return roll(capacity+2) - 1 }
	heap := func() int { return roll(len(x.p.heaps) + 2) }
	some := func() api.Entry { return api.Entry{Key: int64(roll(30)) - 15, Seq: uint64(roll(3))} }
	for i := range length {
		out := 1 + 4*(i/100%2)
		switch call := roll(20); {
		case call == 0 && roll(8) == 0:
			x.make()
		case call == 1 && roll(8) == 0:
			x.meld(heap(), heap())
		case call <= 1+out:
			x.extract(heap())
		case call <= 2+out:
			x.delete(slot())
		case call <= 5+out:
			x.decrease(slot(), some())
		case call <= 6+out:
			x.min(heap())
		default:
			x.insert(heap(), slot(), some())
		}
		if roll(30) == 0 {
			x.ask()
		}
	}
}

// TestMixedWays goes long ways, whose calls hang on a number that is mixed again and again.
func TestMixedWays(t *testing.T) {
	forEach(t, func(t *testing.T, k kind) {
		for seed := range uint64(150) {
			roll := roller(seed)
			x := newPair(t, k, roll(60), roll(4))
			x.mix(roll, 700)
			x.ask()
			x.drainAll()
			x.ask()
		}
	})
}

func FuzzWays(f *testing.F) {
	f.Add(uint8(4), []byte{0, 0, 0, 0, 1, 0x10, 1, 0x21, 4, 0x12, 5, 0x01, 2, 0x00})
	f.Add(uint8(2), []byte{0, 0, 1, 0x10, 1, 0x11, 3, 0x10, 3, 0xf0, 5, 0x10, 2, 0x11})
	f.Add(uint8(0), []byte{0, 0, 1, 0x10, 4, 0x11})
	f.Add(uint8(14), []byte{0, 0, 1, 0x10, 9, 0x11, 17, 0x12, 25, 0x13, 6, 0x10, 3, 0x03, 6, 0x10, 6, 0x10})
	f.Fuzz(func(t *testing.T, capacity uint8, way []byte) {
		for _, k := range kinds() {
			x := newPair(t, k, int(capacity%15), 1)
			for i := 0; i+1 < len(way); i += 2 {
				x.call(way[i], int(way[i+1]>>4), int(way[i+1]&15))
			}
			x.ask()
			x.drainAll()
		}
	})
}

// call does the call of a number.
func (x *pair) call(number byte, a, b int) {
	x.t.Helper()
	e := api.Entry{Key: int64(number>>3) - 16, Seq: uint64(number >> 6)}
	switch number % 8 {
	case 0:
		x.make()
	case 1, 7:
		x.insert(a, b, e)
	case 2:
		x.delete(b)
	case 3:
		x.decrease(b, e)
	case 4:
		x.meld(a, b)
	case 5:
		x.min(a)
	case 6:
		x.extract(a)
	}
}

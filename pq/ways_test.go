package pq

import (
	"testing"

	"haycock/api"
)

// TestAllShortWays goes all ways of some calls upon few slots and heaps.
func TestAllShortWays(t *testing.T) {
	const length = 4
	first, second, again := api.Handle{Gen: 1}, api.Handle{Slot: 1, Gen: 1}, api.Handle{Gen: 2}
	choices := []call{
		{op: api.OpNew}, {op: api.OpInsert, a: 1, key: 1}, {op: api.OpInsert, a: 2, key: 1}, {op: api.OpInsert, a: 3, key: 0},
		{op: api.OpExtract, a: 1}, {op: api.OpExtract, a: 2},
		{op: api.OpDecrease, x: first, key: 0}, {op: api.OpDecrease, x: second, key: 1}, {op: api.OpDecrease, x: second, key: 0},
		{op: api.OpDelete, x: first}, {op: api.OpDelete, x: second}, {op: api.OpDelete, x: again},
		{op: api.OpMeld, a: 1, b: 2}, {op: api.OpMeld, a: 2, b: 1}, {op: api.OpMeld, a: 1, b: 1},
	}
	forFew(t, func(t *testing.T, c api.Config) {
		way := make([]int, length)
		for more := true; more; more = next(way, len(choices)) {
			x := newPair(t, c, 3, 2, 2)
			x.insert(2, 1)
			for _, i := range way {
				x.do(choices[i])
			}
			x.ask()
			x.drainAll()
		}
	})
}

// next makes a way the next one, by its calls' numbers; false behind the last one.
func next(way []int, choices int) bool {
	for i := range way {
		way[i]++
		if way[i] < choices {
			return true
		}
		way[i] = 0
	}
	return false
}

// mixed tells calls that hang on rolls: more of them bring entries in than take them out, or fewer, as it swings.
type mixed struct {
	roll     func(n int) int
	capacity int
	made     int
	gens     []uint32
	done     int
}

func newMixed(roll func(n int) int, capacity, heaps int) *mixed {
	return &mixed{roll: roll, capacity: capacity, made: heaps, gens: make([]uint32, capacity+2)}
}

func (m *mixed) heap() int {
	return m.roll(m.made + 2)
}

// handle is most often the newest one of a slot.
func (m *mixed) handle() api.Handle {
	i := m.roll(m.capacity + 2)
	gen := m.gens[i]
	switch m.roll(12) {
	case 0:
		gen++
	case 1:
		gen--
	}
	return api.Handle{Slot: i - 1, Gen: gen}
}

func (m *mixed) call() call {
	out := 1 + 4*(m.done/100%2)
	m.done++
	key := int64(m.roll(30)) - 15
	switch n := m.roll(24); {
	case n == 0 && m.roll(8) == 0:
		return call{op: api.OpNew}
	case n == 1 && m.roll(8) == 0:
		return call{op: api.OpMeld, a: m.heap(), b: m.heap()}
	case n <= 1+out:
		return call{op: api.OpExtract, a: m.heap()}
	case n <= 2+out:
		return call{op: api.OpDelete, x: m.handle()}
	case n <= 5+out:
		return call{op: api.OpDecrease, x: m.handle(), key: key}
	case n <= 7+out:
		return call{op: []int{api.OpMin, api.OpLen}[m.roll(2)], a: m.heap()}
	case n <= 8+out:
		return call{op: []int{api.OpKey, api.OpHome}[m.roll(2)], x: m.handle()}
	}
	return call{op: api.OpInsert, a: m.heap(), key: key}
}

// see keeps what later calls should know of a reply.
func (m *mixed) see(c call, r api.Reply) {
	if r.Code != 0 {
		return
	}
	switch c.op {
	case api.OpNew:
		m.made++
	case api.OpInsert:
		m.gens[r.Handle.Slot+1] = r.Handle.Gen
	}
}

// TestMixedWays goes long ways, whose calls hang on a number that is mixed again and again.
func TestMixedWays(t *testing.T) {
	forEach(t, func(t *testing.T, c api.Config) {
		for seed := range uint64(100) {
			roll := roller(seed)
			capacity, heaps, most := roll(60), roll(4), []uint32{1, 3, 50, greatestGen}[roll(4)]
			x := newPair(t, c, capacity, most, heaps)
			m := newMixed(roll, capacity, heaps)
			for range 700 {
				next := m.call()
				m.see(next, x.do(next))
				if roll(40) == 0 {
					x.ask()
				}
			}
			x.ask()
			x.drainAll()
			x.ask()
		}
	})
}

// TestAlike: what is answered doesn't hang on the Config. All Configs go one long way, side by side, upon many entries.
func TestAlike(t *testing.T) {
	const capacity, heaps, length = 3000, 3, 30000
	for seed := range uint64(3) {
		var all []*gauged
		for _, c := range configs() {
			all = append(all, open(t, c, capacity, greatestGen, heaps))
		}
		m := newMixed(roller(seed), capacity, heaps)
		for range length {
			next := m.call()
			want := all[0].do(next)
			for _, g := range all[1:] {
				if got := g.do(next); got != want || g.s.Live() != all[0].s.Live() {
					t.Fatalf("%v, %v: %v, not %v", g.s.Config(), next, got, want)
				}
			}
			m.see(next, want)
		}
	}
}

func FuzzWays(f *testing.F) {
	f.Add(uint8(4), uint8(1), []byte{1, 0x10, 1, 0x21, 3, 0x10, 4, 0x01, 5, 0x11, 6, 0x12})
	f.Add(uint8(2), uint8(2), []byte{0, 0, 1, 0x10, 1, 0x11, 3, 0x10, 1, 0x10, 6, 0x21, 3, 0x20})
	f.Add(uint8(0), uint8(0), []byte{0, 0, 1, 0x10, 4, 0x11})
	f.Add(uint8(14), uint8(0), []byte{0, 0, 1, 0x10, 9, 0x11, 17, 0x12, 25, 0x13, 6, 0x10, 3, 0x03, 6, 0x10, 6, 0x10})
	f.Fuzz(func(t *testing.T, capacity, most uint8, way []byte) {
		for _, c := range configs() {
			x := newPair(t, c, int(capacity%15), 1+uint32(most%4), 1)
			for i := 0; i+1 < len(way); i += 2 {
				a, b := int(way[i+1]>>4), int(way[i+1]&15)
				x.do(call{op: 1 + int(way[i]%10), a: a, b: b, x: api.Handle{Slot: a, Gen: uint32(b)}, key: int64(way[i]>>3) - 16})
			}
			x.ask()
			x.drainAll()
		}
	})
}

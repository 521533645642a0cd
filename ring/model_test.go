package ring

import (
	"slices"
	"testing"
)

// model is rings as the chapter tells of them: lists, each from whichever thing on.
type model struct {
	n     int
	rings [][]int
}

func newModel(n int) *model {
	m := &model{n: n}
	for x := range n {
		m.rings = append(m.rings, []int{x})
	}
	return m
}

func (m *model) has(x int) bool {
	return x >= 0 && x < m.n
}

// take takes a thing's ring out, from the thing on.
func (m *model) take(x int) []int {
	at := slices.IndexFunc(m.rings, func(ring []int) bool { return slices.Contains(ring, x) })
	ring := m.rings[at]
	m.rings = slices.Delete(m.rings, at, at+1)
	i := slices.Index(ring, x)
	return slices.Concat(ring[i:], ring[:i])
}

func (m *model) put(things ...int) {
	if len(things) > 0 {
		m.rings = append(m.rings, things)
	}
}

// splice does what the chapter says in its brackets, of two rings, or of one.
func (m *model) splice(x, y int) bool {
	if !m.has(x) || !m.has(y) {
		return false
	}
	if x == y {
		return true
	}
	ofX := m.take(x)
	if i := slices.Index(ofX, y); i >= 0 {
		m.put(slices.Concat([]int{x}, ofX[i+1:])...)
		m.put(slices.Concat([]int{y}, ofX[1:i])...)
		return true
	}
	ofY := m.take(y)
	m.put(slices.Concat([]int{x}, ofY[1:], []int{y}, ofX[1:])...)
	return true
}

func (m *model) part(x int) bool {
	if !m.has(x) {
		return false
	}
	ring := m.take(x)
	m.put(x)
	m.put(ring[1:]...)
	return true
}

// both is rings and what should be told of them.
type both struct {
	t     *testing.T
	rings *Rings
	model *model
}

func newBoth(t *testing.T, n int) *both {
	t.Helper()
	return &both{t, fresh(t, n), newModel(n)}
}

func (b *both) splice(x, y int) {
	b.t.Helper()
	if want, got := b.model.splice(x, y), b.rings.Splice(x, y); got != want {
		b.t.Fatalf("Splice(%d, %d) = %v of %d things", x, y, got, b.model.n)
	}
}

func (b *both) part(x int) {
	b.t.Helper()
	if want, got := b.model.part(x), b.rings.Part(x); got != want {
		b.t.Fatalf("Part(%d) = %v of %d things", x, got, b.model.n)
	}
}

// ask asks all there is to be told of each thing; no things are those ahead of the first and behind the last one.
func (b *both) ask() {
	b.t.Helper()
	wantRings(b.t, b.rings, b.model.rings...)
	wantNone(b.t, b.rings, -2, -1, b.model.n, b.model.n+1)
}

// change is one call that can change rings.
type change struct {
	part bool
	x, y int
}

func (b *both) do(c change) {
	b.t.Helper()
	if c.part {
		b.part(c.x)
	} else {
		b.splice(c.x, c.y)
	}
}

// changes is all calls that can change so many things, wrong ones too: of a thing behind the last one.
func changes(n int) []change {
	var list []change
	for x := range n + 1 {
		list = append(list, change{part: true, x: x})
		for y := range n + 1 {
			list = append(list, change{x: x, y: y})
		}
	}
	return list
}

// TestShortWays does all there is to do with few things, in each order.
func TestShortWays(t *testing.T) {
	for _, c := range []struct{ n, length int }{{0, 2}, {1, 3}, {2, 4}, {3, 3}, {4, 3}} {
		list := changes(c.n)
		ways := 1
		for range c.length {
			ways *= len(list)
		}
		for way := range ways {
			b := newBoth(t, c.n)
			for range c.length {
				b.do(list[way%len(list)])
				way /= len(list)
			}
			b.ask()
		}
	}
}

// roller answers numbers below n that hang on a number alone.
func roller(seed uint64) func(n int) int {
	mix := seed*2654435761 + 12345
	return func(n int) int {
		mix = mix*6364136223846793005 + 1442695040888963407
		return int(mix>>33) % n
	}
}

// TestMixedWays goes long ways with more things; sometimes few of them come out of their rings, sometimes many.
func TestMixedWays(t *testing.T) {
	for n := 1; n <= 14; n++ {
		for seed := range uint64(12) {
			roll := roller(seed)
			b := newBoth(t, n)
			for i := range 400 {
				few := 1 + 5*(i/60%2)
				b.do(change{roll(12) < few, roll(n+2) - 1, roll(n+2) - 1})
				if i%5 == 0 {
					b.ask()
				}
			}
			b.ask()
		}
	}
}

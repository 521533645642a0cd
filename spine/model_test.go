package spine

import (
	"slices"
	"testing"
)

// place is where a thing hangs: below which one, and on which side.
type place struct {
	above int
	right bool
}

// model is things as the chapter tells of them: where each hangs, if it does, and no more.
type model struct {
	n     int
	hangs map[int]place
}

func newModel(n int) *model {
	return &model{n: n, hangs: map[int]place{}}
}

func (m *model) has(x int) bool {
	return x >= 0 && x < m.n
}

// at is what hangs at a place.
func (m *model) at(p place) (int, bool) {
	for x, at := range m.hangs {
		if at == p {
			return x, true
		}
	}
	return 0, false
}

func (m *model) hang(p, x int, right bool) bool {
	_, below := m.hangs[x]
	_, full := m.at(place{p, right})
	if !m.has(p) || !m.has(x) || p == x || below || full {
		return false
	}
	m.hangs[x] = place{p, right}
	return true
}

func (m *model) cut(x int) (int, bool) {
	p, ok := m.hangs[x]
	delete(m.hangs, x)
	return p.above, ok
}

func (m *model) turn(p int) bool {
	for x := range m.n {
		if at, ok := m.hangs[x]; ok && at.above == p {
			m.hangs[x] = place{p, !at.right}
		}
	}
	return m.has(p)
}

func (m *model) root(x int) (int, bool) {
	if p, ok := m.hangs[x]; ok {
		return m.root(p.above)
	}
	if !m.has(x) {
		return 0, false
	}
	return x, true
}

func (m *model) spine(x int) []int {
	list := []int{x}
	if c, ok := m.at(place{x, true}); ok {
		list = append(list, m.spine(c)...)
	}
	return list
}

func (m *model) all(x int) []int {
	list := []int{x}
	for _, right := range []bool{false, true} {
		if c, ok := m.at(place{x, right}); ok {
			list = append(list, m.all(c)...)
		}
	}
	return list
}

// both is trees and what should be told of them.
type both struct {
	t     *testing.T
	trees *Trees
	model *model
}

func newBoth(t *testing.T, n int) *both {
	t.Helper()
	return &both{t, fresh(t, n), newModel(n)}
}

func (b *both) hang(p, x int, right bool) {
	b.t.Helper()
	if want, got := b.model.hang(p, x, right), b.trees.Hang(p, x, right); got != want {
		b.t.Fatalf("Hang(%d, %d, %v) = %v, where %v hang", p, x, right, got, b.model.hangs)
	}
}

func (b *both) cut(x int) {
	b.t.Helper()
	p, ok := b.model.cut(x)
	if got, cut := b.trees.Cut(x); got != p || cut != ok {
		b.t.Fatalf("Cut(%d) = %d, %v, not %d, %v", x, got, cut, p, ok)
	}
}

func (b *both) turn(p int) {
	b.t.Helper()
	if want, got := b.model.turn(p), b.trees.Turn(p); got != want {
		b.t.Fatalf("Turn(%d) = %v of %d things", p, got, b.model.n)
	}
}

// ask asks all there is to be told of each thing, and of those ahead of the first and behind the last one.
func (b *both) ask() {
	b.t.Helper()
	for x := range b.model.n {
		b.askOf(x)
	}
	wantNone(b.t, b.trees, -2, -1, b.model.n, b.model.n+1)
}

func (b *both) askOf(x int) {
	b.t.Helper()
	p, above := b.model.hangs[x]
	wantIs(b.t, "Up", b.trees.Up, x, p.above, above)
	c, ok := b.model.at(place{x, false})
	wantIs(b.t, "Left", b.trees.Left, x, c, ok)
	c, ok = b.model.at(place{x, true})
	wantIs(b.t, "Right", b.trees.Right, x, c, ok)
	r, ok := b.model.root(x)
	wantIs(b.t, "Root", b.trees.Root, x, r, ok)
	wantList(b.t, "Spine", b.trees.Spine(x), b.model.spine(x)...)
	wantList(b.t, "All", b.trees.All(x), b.model.all(x)...)
}

// change is one call that can change trees.
type change struct {
	call, p, x int
	right      bool
}

// makesRing tells whether a thing would be hung below one that is below it: of that nothing is promised.
func (b *both) makesRing(c change) bool {
	if c.call != 0 || c.p == c.x {
		return false
	}
	top, ok := b.model.root(c.p)
	return ok && top == c.x
}

func (b *both) do(c change) {
	b.t.Helper()
	switch c.call {
	case 0:
		b.hang(c.p, c.x, c.right)
	case 1:
		b.cut(c.x)
	default:
		b.turn(c.p)
	}
}

// changes is all calls that can change so many things, wrong ones too: of a thing behind the last one.
func changes(n int) []change {
	var list []change
	for x := range n + 1 {
		list = append(list, change{call: 1, x: x}, change{call: 2, p: x})
		for p := range n + 1 {
			list = append(list, change{0, p, x, false}, change{0, p, x, true})
		}
	}
	return list
}

// TestShortWays does all there is to do with few things, in each order.
func TestShortWays(t *testing.T) {
	for _, c := range []struct{ n, length int }{{0, 3}, {1, 3}, {2, 3}, {3, 3}} {
		list := changes(c.n)
		ways := 1
		for range c.length {
			ways *= len(list)
		}
		for way := range ways {
			b := newBoth(t, c.n)
			for range c.length {
				if next := list[way%len(list)]; !b.makesRing(next) {
					b.do(next)
				}
				way /= len(list)
			}
			b.ask()
		}
	}
}

// roller answers numbers below n that hang on a number alone.
func roller(seed uint64) func(n int) int {
	mix := seed*2654435761 + 12345
	return func(n int) int {
		mix = mix*6364136223846793005 + 1442695040888963407
		return int(mix>>33) % n
	}
}

// TestMixedWays goes long ways with more things; sometimes many of them hang, sometimes few.
func TestMixedWays(t *testing.T) {
	for n := 1; n <= 14; n++ {
		for seed := range uint64(12) {
			roll := roller(seed)
			b := newBoth(t, n)
			for i := range 400 {
				c := change{0, roll(n+2) - 1, roll(n+2) - 1, roll(2) == 0}
				if few := 2 + 5*(i/60%2); roll(12) < few {
					c.call = 1 + roll(2)
				}
				if !b.makesRing(c) {
					b.do(c)
				}
				if i%5 == 0 {
					b.ask()
				}
			}
			b.ask()
		}
	}
}

// TestGraft takes whole trees off and hangs them elsewhere, as those do who merge.
func TestGraft(t *testing.T) {
	const n = 40
	for seed := range uint64(20) {
		roll := roller(seed)
		b := newBoth(t, n)
		for range 300 {
			x, p := roll(n), roll(n)
			b.cut(x)
			if at, ok := b.model.root(p); !ok || at == x {
				continue
			}
			right := roll(2) == 0
			if c, ok := b.model.at(place{p, right}); ok {
				b.cut(c)
			}
			b.hang(p, x, right)
			b.turn(roll(n))
		}
		b.ask()
		if top, _ := b.trees.Root(0); !slices.Contains(b.trees.All(top), 0) {
			t.Fatalf("0 is not below %d", top)
		}
	}
}

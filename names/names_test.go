package names

import (
	"testing"

	"haycock/api"
)

const (
	leastInt    = -1 << 63
	greatestInt = 1<<63 - 1
)

// farNumbers are never made; some of them would be in fewer bits.
var farNumbers = []int{
	leastInt, leastInt + 1, -1 << 62, -1 << 32, -1<<32 + 1, -65537, -65536, -65535, -3, -2, -1, 0,
	65537, 65538, 1 << 17, 1<<31 - 1, 1 << 31, 1 << 32, 1<<32 + 1, 1<<32 + 2, 1 << 62, 1<<62 + 1, greatestInt - 1, greatestInt,
}

// fresh is new names of which it is known that they can be.
func fresh(t *testing.T, most int) *Names {
	t.Helper()
	n, e := New(most)
	if e != api.OK || n == nil {
		t.Fatalf("New(%d) = %v, %d", most, n, e)
	}
	return n
}

// filled is names with so many of them made.
func filled(t *testing.T, most, made int) *Names {
	t.Helper()
	n := fresh(t, most)
	for i := range made {
		wantMake(t, n, i+1)
	}
	return n
}

// wantMake makes one, and asks for that number.
func wantMake(t *testing.T, n *Names, want int) {
	t.Helper()
	if id, ok := n.Make(); id != want || !ok {
		t.Fatalf("Make() = %d, %v, not %d", id, ok, want)
	}
}

// wantNoMore asks for one more, twice: the first answer changes nothing.
func wantNoMore(t *testing.T, n *Names) {
	t.Helper()
	last, count := n.Last(), n.Count()
	for range 2 {
		if id, ok := n.Make(); id != 0 || ok {
			t.Fatalf("Make() = %d, %v, though all were made", id, ok)
		}
	}
	wantCounts(t, n, last, count)
}

// wantCounts asks for both numbers.
func wantCounts(t *testing.T, n *Names, last, count int) {
	t.Helper()
	if n.Last() != last || n.Count() != count {
		t.Fatalf("Last, Count: %d, %d, not %d, %d", n.Last(), n.Count(), last, count)
	}
}

// wantJoin joins what can be joined.
func wantJoin(t *testing.T, n *Names, a, b int) {
	t.Helper()
	if !n.Join(a, b) {
		t.Fatalf("Join(%d, %d) = false", a, b)
	}
}

// wantApart joins what can't be joined.
func wantApart(t *testing.T, n *Names, a, b int) {
	t.Helper()
	last, count := n.Last(), n.Count()
	if n.Join(a, b) {
		t.Fatalf("Join(%d, %d) = true", a, b)
	}
	wantCounts(t, n, last, count)
}

// wantRoots asks of each number, from 1 on, for its root, and whether it is one.
func wantRoots(t *testing.T, n *Names, roots ...int) {
	t.Helper()
	for i, want := range roots {
		if id, ok := n.Root(i + 1); id != want || !ok {
			t.Fatalf("Root(%d) = %d, %v, not %d", i+1, id, ok, want)
		}
		if got := n.Has(i + 1); got != (want == i+1) {
			t.Fatalf("Has(%d) = %v, though its root is %d", i+1, got, want)
		}
	}
}

// wantNone asks for numbers that were never made: the next one, and far ones.
func wantNone(t *testing.T, n *Names) {
	t.Helper()
	for _, id := range append([]int{n.Last() + 1, n.Last() + 2}, farNumbers...) {
		if root, ok := n.Root(id); root != 0 || ok {
			t.Fatalf("Root(%d) = %d, %v", id, root, ok)
		}
		if n.Has(id) {
			t.Fatalf("Has(%d), though %d were made", id, n.Last())
		}
		wantApart(t, n, id, id)
		if n.Last() > 0 {
			wantApart(t, n, id, n.Last())
			wantApart(t, n, n.Last(), id)
		}
	}
}

func TestNewOfNone(t *testing.T) {
	for _, most := range []int{
		leastInt, leastInt + 1, -1 << 32, -1<<32 + 5, -65536, -2, -1,
		65537, 65538, 1 << 17, 1 << 31, 1 << 32, 1<<32 + 1, 1 << 62, greatestInt - 1, greatestInt,
	} {
		if n, e := New(most); n != nil || e != api.ErrRange {
			t.Errorf("New(%d) = %v, %d", most, n, e)
		}
	}
}

func TestNew(t *testing.T) {
	for _, most := range []int{0, 1, 2, 3, 100, 255, 256, 65535, 65536} {
		n := fresh(t, most)
		wantCounts(t, n, 0, 0)
		wantNone(t, n)
	}
}

// TestMake goes to the end of what may be made, and beyond.
func TestMake(t *testing.T) {
	for _, most := range []int{0, 1, 2, 3, 100, 255, 256, 257, 65535, 65536} {
		n := fresh(t, most)
		for i := range most {
			wantMake(t, n, i+1)
			wantCounts(t, n, i+1, i+1)
		}
		wantNoMore(t, n)
		if most > 0 {
			wantRoots(t, n, 1)
			if id, ok := n.Root(most); id != most || !ok || !n.Has(most) {
				t.Errorf("Root(%d) = %d, %v", most, id, ok)
			}
		}
		wantNone(t, n)
	}
}

// TestMadeStaysMade: what was joined away makes no room for others, and its number isn't made again.
func TestMadeStaysMade(t *testing.T) {
	n := filled(t, 4, 2)
	wantJoin(t, n, 2, 1)
	wantCounts(t, n, 2, 1)
	wantMake(t, n, 3)
	wantCounts(t, n, 3, 2)
	wantJoin(t, n, 2, 3)
	wantMake(t, n, 4)
	wantNoMore(t, n)
	wantJoin(t, n, 4, 2)
	wantNoMore(t, n)
	wantCounts(t, n, 4, 1)
	wantRoots(t, n, 4, 4, 4, 4)
}

// TestExample: of three, 2 and 3 are joined, then 1 and 2.
func TestExample(t *testing.T) {
	n := filled(t, 3, 3)
	wantJoin(t, n, 2, 3)
	wantRoots(t, n, 1, 2, 2)
	wantCounts(t, n, 3, 2)
	wantJoin(t, n, 1, 2)
	wantRoots(t, n, 1, 1, 1)
	wantCounts(t, n, 3, 1)
}

// TestExampleUnasked asks for the last one first, so that nothing made its way shorter.
func TestExampleUnasked(t *testing.T) {
	n := filled(t, 3, 3)
	wantJoin(t, n, 2, 3)
	wantJoin(t, n, 1, 2)
	if id, ok := n.Root(3); id != 1 || !ok {
		t.Errorf("Root(3) = %d, %v", id, ok)
	}
	if !n.Has(1) || n.Has(2) || n.Has(3) {
		t.Error(n.Has(1), n.Has(2), n.Has(3))
	}
}

// TestJoinKeepsTheFirst: which one stays hangs on the order alone, not on how many count as either.
func TestJoinKeepsTheFirst(t *testing.T) {
	n := filled(t, 6, 6)
	wantJoin(t, n, 2, 1)
	wantJoin(t, n, 2, 3)
	wantJoin(t, n, 2, 4)
	wantJoin(t, n, 6, 2)
	wantRoots(t, n, 6, 6, 6, 6, 5, 6)
	wantJoin(t, n, 5, 6)
	wantRoots(t, n, 5, 5, 5, 5, 5, 5)
	wantCounts(t, n, 6, 1)
}

// TestJoinOfNone: itself, joined ones on both sides, those that were never made.
func TestJoinOfNone(t *testing.T) {
	n := filled(t, 6, 5)
	wantApart(t, n, 1, 1)
	wantApart(t, n, 5, 5)
	wantJoin(t, n, 1, 2)
	wantJoin(t, n, 3, 4)
	for _, x := range [][2]int{
		{1, 2}, {2, 1}, {2, 2}, {2, 3}, {3, 2}, {2, 4}, {4, 2}, {4, 3}, {3, 4}, {4, 4}, {5, 2}, {5, 4}, {4, 5},
		{1, 6}, {6, 1}, {2, 6}, {6, 2}, {6, 6}, {0, 1}, {1, 0}, {0, 0}, {-1, 1}, {1, -1}, {-1, -1}, {0, 6},
	} {
		wantApart(t, n, x[0], x[1])
		wantRoots(t, n, 1, 1, 3, 3, 5)
	}
	wantNone(t, n)
	wantRoots(t, n, 1, 1, 3, 3, 5)
	wantCounts(t, n, 5, 3)
	wantMake(t, n, 6)
	wantJoin(t, n, 6, 1)
	wantRoots(t, n, 6, 6, 3, 3, 5, 6)
}

// TestLongWays joins all there can be, one behind the other, from both ends, and asks all of them.
func TestLongWays(t *testing.T) {
	const most = 65536
	up, down := filled(t, most, most), filled(t, most, most)
	for i := 1; i < most; i++ {
		wantJoin(t, up, i+1, i)
		wantJoin(t, down, most-i, most-i+1)
		wantCounts(t, up, most, most-i)
	}
	for i := 1; i <= most; i++ {
		if id, ok := up.Root(i); id != most || !ok || up.Has(i) != (i == most) {
			t.Fatalf("upwards: Root(%d) = %d, %v", i, id, ok)
		}
		k := most + 1 - i
		if id, ok := down.Root(k); id != 1 || !ok || down.Has(k) != (k == 1) {
			t.Fatalf("downwards: Root(%d) = %d, %v", k, id, ok)
		}
	}
	wantCounts(t, up, most, 1)
	wantCounts(t, down, most, 1)
	wantNoMore(t, up)
}

// way is how many steps it is from a number to its root.
func way(n *Names, id int) int {
	steps := 0
	for n.into[id] != id {
		id = n.into[id]
		steps++
	}
	return steps
}

// TestWaysGetShorter: whoever asks makes the way half as long, or shorter, till it is one step.
func TestWaysGetShorter(t *testing.T) {
	const most = 65536
	n := filled(t, most, most)
	for i := 1; i < most; i++ {
		wantJoin(t, n, i+1, i)
	}
	before := way(n, 1)
	for range 16 {
		if id, ok := n.Root(1); id != most || !ok {
			t.Fatalf("Root(1) = %d, %v", id, ok)
		}
		after := way(n, 1)
		if after > before/2+1 {
			t.Fatalf("the way was %d steps, and is %d", before, after)
		}
		before = after
	}
	if before != 1 {
		t.Errorf("asked 16 times, the way is %d steps", before)
	}
}

// TestAskedBetween: a way that got shorter still leads on, when its end is joined into another one.
func TestAskedBetween(t *testing.T) {
	const most = 2000
	n := filled(t, most, most)
	for i := 1; i < most; i++ {
		wantJoin(t, n, i+1, i)
		for _, id := range []int{1, i/2 + 1, i, i + 1} {
			if root, ok := n.Root(id); root != i+1 || !ok {
				t.Fatalf("behind Join(%d, %d) Root(%d) = %d, %v", i+1, i, id, root, ok)
			}
		}
	}
}

// TestApart: what is done to some names is nothing to others (P2).
func TestApart(t *testing.T) {
	a, b := filled(t, 3, 2), filled(t, 3, 3)
	wantJoin(t, a, 1, 2)
	wantRoots(t, b, 1, 2, 3)
	wantJoin(t, b, 3, 2)
	wantMake(t, a, 3)
	wantRoots(t, a, 1, 1, 3)
	wantRoots(t, b, 1, 3, 3)
	wantCounts(t, a, 3, 2)
	wantCounts(t, b, 3, 2)
}

// TestAnswersStay asks again and again: what only asks changes nothing that can be told (P2).
func TestAnswersStay(t *testing.T) {
	n := filled(t, 9, 6)
	wantJoin(t, n, 5, 6)
	wantJoin(t, n, 4, 5)
	wantJoin(t, n, 2, 4)
	wantJoin(t, n, 3, 2)
	for range 5 {
		wantRoots(t, n, 1, 3, 3, 3, 3, 3)
		wantNone(t, n)
		wantCounts(t, n, 6, 2)
	}
}

// plain is names by what the chapter says alone: which one each was joined into; 0: into none.
type plain struct {
	most int
	into []int
}

func (p *plain) has(id int) bool {
	return id >= 1 && id <= len(p.into) && p.into[id-1] == 0
}

func (p *plain) root(id int) (int, bool) {
	if id < 1 || id > len(p.into) {
		return 0, false
	}
	if p.into[id-1] == 0 {
		return id, true
	}
	return p.root(p.into[id-1])
}

func (p *plain) count() int {
	count := 0
	for id := range len(p.into) + 1 {
		if p.has(id) {
			count++
		}
	}
	return count
}

// pair is names, and plain ones that are asked the same.
type pair struct {
	t *testing.T
	n *Names
	p *plain
}

func newPair(t *testing.T, most int) *pair {
	return &pair{t: t, n: fresh(t, most), p: &plain{most: most}}
}

func (x *pair) make() {
	want := 0
	if len(x.p.into) < x.p.most {
		x.p.into = append(x.p.into, 0)
		want = len(x.p.into)
	}
	if id, ok := x.n.Make(); id != want || ok != (want > 0) {
		x.t.Fatalf("Make() = %d, %v, not %d", id, ok, want)
	}
}

func (x *pair) join(a, b int) {
	want := x.p.has(a) && x.p.has(b) && a != b
	if want {
		x.p.into[b-1] = a
	}
	if got := x.n.Join(a, b); got != want {
		x.t.Fatalf("Join(%d, %d) = %v", a, b, got)
	}
}

func (x *pair) root(id int) {
	want, wantOK := x.p.root(id)
	if got, ok := x.n.Root(id); got != want || ok != wantOK {
		x.t.Fatalf("Root(%d) = %d, %v, not %d, %v", id, got, ok, want, wantOK)
	}
}

// ask holds all that can be asked without a change.
func (x *pair) ask() {
	wantCounts(x.t, x.n, len(x.p.into), x.p.count())
	for id := -1; id <= x.p.most+1; id++ {
		if got := x.n.Has(id); got != x.p.has(id) {
			x.t.Fatalf("Has(%d) = %v", id, got)
		}
		x.root(id)
	}
}

// TestAllShortWays goes all ways of some calls upon few names: a Make, or a Join of any two.
func TestAllShortWays(t *testing.T) {
	const most, length = 4, 3
	var joins [][2]int
	for a := range most + 2 {
		for b := range most + 2 {
			joins = append(joins, [2]int{a, b})
		}
	}
	for made := range most + 1 {
		calls := make([]int, length)
		for more := true; more; more = next(calls, len(joins)+1) {
			x := newPair(t, most)
			for range made {
				x.make()
			}
			for _, call := range calls {
				if call == len(joins) {
					x.make()
				} else {
					x.join(joins[call][0], joins[call][1])
				}
			}
			x.ask()
			x.ask()
		}
	}
}

// next makes a way the next one, by its calls' numbers; false behind the last one.
func next(calls []int, choices int) bool {
	for i := range calls {
		calls[i]++
		if calls[i] < choices {
			return true
		}
		calls[i] = 0
	}
	return false
}

// TestMixedWays goes long ways, whose calls hang on a number that is mixed again and again.
func TestMixedWays(t *testing.T) {
	for seed := range uint64(80) {
		mix := seed*2654435761 + 12345
		roll := func(n int) int {
			mix = mix*6364136223846793005 + 1442695040888963407
			return int(mix>>33) % n
		}
		most := roll(60)
		x := newPair(t, most)
		asks := roll(3)
		for range 400 {
			if roll(4) == 0 {
				x.make()
			}
			a, b := roll(most+3)-1, roll(most+3)-1
			if root, ok := x.n.Root(a); ok && roll(2) == 0 {
				a = root
			}
			x.join(a, b)
			for range asks {
				x.root(roll(most+3) - 1)
			}
			if roll(9) == 0 {
				x.ask()
			}
		}
		x.ask()
	}
}

func FuzzWays(f *testing.F) {
	f.Add(uint8(3), []byte{0, 0, 0, 0x23, 0x12})
	f.Add(uint8(4), []byte{0, 0, 0, 0, 0, 0x31, 0x12, 0x21, 0x23, 0x43, 0x42})
	f.Add(uint8(0), []byte{0, 0x11, 0x12})
	f.Fuzz(func(t *testing.T, most uint8, calls []byte) {
		x := newPair(t, int(most%15))
		for _, call := range calls {
			if call == 0 {
				x.make()
			} else {
				x.join(int(call>>4), int(call&15))
				x.root(int(call>>2) & 15)
			}
		}
		x.ask()
	})
}

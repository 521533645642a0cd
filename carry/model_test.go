package carry

import (
	"slices"
	"strconv"
	"strings"
	"testing"

	"haycock/sift"
)

// model is a forest as the chapter tells of it: which children each thing has, and no more.
type model struct {
	kids [][]int
}

func (m *model) has(x int) bool {
	return x >= 0 && x < len(m.kids)
}

// degree is how many children a thing has.
func (m *model) degree(x int) int {
	if !m.has(x) {
		return 0
	}
	return len(m.kids[x])
}

// up is the thing among whose children one is, and at which place; -1, if there is none.
func (m *model) up(x int) (int, int) {
	for p, kids := range m.kids {
		if i := slices.Index(kids, x); i >= 0 {
			return p, i
		}
	}
	return -1, -1
}

func (m *model) isRoot(x int) bool {
	p, _ := m.up(x)
	return m.has(x) && p < 0
}

func (m *model) link(a, b int) bool {
	if a == b || !m.isRoot(a) || !m.isRoot(b) || m.degree(a) != m.degree(b) {
		return false
	}
	m.kids[a] = append(m.kids[a], b)
	return true
}

func (m *model) split(x int) []int {
	if !m.isRoot(x) {
		return nil
	}
	kids := m.kids[x]
	m.kids[x] = nil
	return kids
}

func (m *model) lift(x int) bool {
	p, i := m.up(x)
	if p < 0 {
		return false
	}
	if above, j := m.up(p); above >= 0 {
		m.kids[above][j] = x
	}
	m.kids[x], m.kids[p] = m.kids[p], m.kids[x]
	m.kids[x][i] = p
	return true
}

func (m *model) row(l []int) bool {
	for i, x := range l {
		if !m.isRoot(x) || i > 0 && m.degree(x) <= m.degree(l[i-1]) {
			return false
		}
	}
	return true
}

// carries: can two rows be carried?
func (m *model) carries(a, b []int) bool {
	for _, x := range a {
		if slices.Contains(b, x) {
			return false
		}
	}
	return m.row(a) && m.row(b)
}

// size is how many things a cube has.
func (m *model) size(x int) int {
	size := 1
	for _, kid := range m.kids[x] {
		size += m.size(kid)
	}
	return size
}

// isCube: are a thing's children cubes of the degrees 0, 1, and so on?
func (m *model) isCube(x int) bool {
	for i, kid := range m.kids[x] {
		if len(m.kids[kid]) != i || !m.isCube(kid) {
			return false
		}
	}
	return true
}

// text tells models apart.
func (m *model) text() string {
	var b strings.Builder
	for _, kids := range m.kids {
		for _, kid := range kids {
			b.WriteString(strconv.Itoa(kid))
			b.WriteByte(' ')
		}
		b.WriteByte('/')
	}
	return b.String()
}

// both is a forest and what should be told of it.
type both struct {
	t     *testing.T
	f     *Forest
	model *model
}

func newBoth(t *testing.T, n int) *both {
	t.Helper()
	return &both{t, fresh(t, n), &model{make([][]int, n)}}
}

func (b *both) link(x, y int) {
	b.t.Helper()
	want := b.model.link(x, y)
	if b.f.Link(x, y) != want {
		b.t.Fatalf("Link(%d, %d) = %v, behind which there are %v", x, y, !want, b.model.kids)
	}
}

func (b *both) split(x int) {
	b.t.Helper()
	want := b.model.split(x)
	wantList(b.t, "Split("+strconv.Itoa(x)+")", b.f.Split(x), want...)
}

func (b *both) lift(x int) {
	b.t.Helper()
	want := b.model.lift(x)
	if b.f.Lift(x) != want {
		b.t.Fatalf("Lift(%d) = %v, behind which there are %v", x, !want, b.model.kids)
	}
}

// asks is an Order that is asked of roots alone, each of a row that is handed in, and that counts.
type asks struct {
	sift.Order
	t     *testing.T
	roots []int
	asked int
}

func (a *asks) Ahead(x, y int) bool {
	a.asked++
	if x == y || !slices.Contains(a.roots, x) || !slices.Contains(a.roots, y) {
		a.t.Fatalf("is %d ahead of %d, where %v are roots?", x, y, a.roots)
	}
	return a.Order.Ahead(x, y)
}

// carry carries two rows, if they can be carried.
func (b *both) carry(o sift.Order, x, y []int) []int {
	b.t.Helper()
	want := b.model.carries(x, y)
	a := &asks{o, b.t, slices.Concat(x, y), 0}
	row, ok := b.f.Carry(a, x, y)
	if ok != want || !ok && (len(row) != 0 || a.asked != 0) {
		b.t.Fatalf("Carry(%v, %v) = %v, %v, behind %d questions, of %v", x, y, row, ok, a.asked, b.model.kids)
	}
	if ok {
		b.wantCarried(o, a, row)
	}
	return row
}

// wantCarried holds a row that was carried: that it came of Links alone, each of two roots of one degree, the one that is ahead above the other one, as often as there were two; and that no more was asked than there were roots.
func (b *both) wantCarried(o sift.Order, a *asks, row []int) {
	b.t.Helper()
	size := 0
	for _, x := range a.roots {
		size += b.model.size(x)
	}
	if a.asked > len(a.roots) {
		b.t.Fatalf("%d questions of %d roots", a.asked, len(a.roots))
	}
	left := len(a.roots)
	for degree := range 17 {
		for _, x := range a.roots {
			kids := b.f.Kids(x)
			if b.model.degree(x) != degree || len(kids) == degree {
				continue
			}
			kid := kids[degree]
			if !b.model.link(x, kid) || !slices.Contains(a.roots, kid) || !o.Ahead(x, kid) {
				b.t.Fatalf("%d is below %d, of the roots %v", kid, x, a.roots)
			}
			left--
		}
	}
	if left != len(row) || !b.model.row(row) {
		b.t.Fatalf("Carry = %v of the roots %v, where there are %v", row, a.roots, b.model.kids)
	}
	for _, x := range row {
		if !slices.Contains(a.roots, x) {
			b.t.Fatalf("Carry = %v of the roots %v", row, a.roots)
		}
		size -= b.model.size(x)
	}
	if size != 0 {
		b.t.Fatalf("%d things were lost", size)
	}
}

// ask asks all there is to be told of each thing, and of those ahead of the first and behind the last one.
func (b *both) ask() {
	b.t.Helper()
	for x, kids := range b.model.kids {
		p, _ := b.model.up(x)
		wantThing(b.t, b.f, x, p, kids...)
		wantRow(b.t, b.f, p < 0, x)
		if p < 0 && !b.model.isCube(x) {
			b.t.Fatalf("%d is no cube: %v", x, b.model.kids)
		}
	}
	for _, x := range []int{-2, -1, len(b.model.kids), len(b.model.kids) + 1} {
		wantThing(b.t, b.f, x, -1)
		wantRow(b.t, b.f, false, x)
	}
}

// change is one call that can change a forest.
type change struct{ call, x, y int }

func (b *both) do(c change) {
	b.t.Helper()
	switch c.call {
	case 0:
		b.link(c.x, c.y)
	case 1:
		b.split(c.x)
	default:
		b.lift(c.x)
	}
}

// changes is all calls that can change so many things, wrong ones too: of what is ahead of the first and behind the last one.
func changes(n int) []change {
	var list []change
	for x := -1; x <= n; x++ {
		list = append(list, change{1, x, 0}, change{2, x, 0})
		for y := -1; y <= n; y++ {
			list = append(list, change{0, x, y})
		}
	}
	return list
}

// forForests calls with a way to each forest there can be of so many things.
func forForests(t *testing.T, n int, do func(way []change)) int {
	t.Helper()
	list := changes(n)
	seen := map[string]bool{walked(t, n, nil).model.text(): true}
	ways := [][]change{nil}
	for i := 0; i < len(ways); i++ {
		do(ways[i])
		for _, c := range list {
			b := walked(t, n, ways[i])
			b.do(c)
			b.ask()
			if text := b.model.text(); !seen[text] {
				seen[text] = true
				ways = append(ways, append(slices.Clone(ways[i]), c))
			}
		}
	}
	return len(ways)
}

// walked is a forest at the end of a way.
func walked(t *testing.T, n int, way []change) *both {
	t.Helper()
	b := newBoth(t, n)
	for _, c := range way {
		b.do(c)
	}
	return b
}

// TestAllForests does all there is to do in each forest of few things. How many there are is known: of each parting into cubes, as many as there are numberings.
func TestAllForests(t *testing.T) {
	for n, want := range []int{1, 1, 3, 7, 49, 201} {
		if got := forForests(t, n, func([]change) {}); got != want {
			t.Errorf("%d forests of %d things, not %d", got, n, want)
		}
	}
}

// lists is all lists of up to so many of the things ahead of the first up to that behind the last one.
func lists(n, length int) [][]int {
	all := [][]int{nil}
	for from := 0; length > 0; length-- {
		to := len(all)
		for _, l := range all[from:to] {
			for x := -1; x <= n; x++ {
				all = append(all, append(slices.Clone(l), x))
			}
		}
		from = to
	}
	return all
}

// TestAllRows asks of all short lists whether they are rows, in each forest of few things.
func TestAllRows(t *testing.T) {
	for n := range 6 {
		all := lists(n, 3)
		forForests(t, n, func(way []change) {
			b := walked(t, n, way)
			for _, l := range all {
				wantRow(t, b.f, b.model.row(l), l...)
			}
			b.ask()
		})
	}
}

// TestAllCarries carries all pairs of short lists, rows or none, in each forest of few things.
func TestAllCarries(t *testing.T) {
	for n := range 6 {
		all := lists(n, 2)
		forForests(t, n, func(way []change) {
			b := walked(t, n, way)
			for _, x := range all {
				for _, y := range all {
					carries := b.model.carries(x, y)
					for _, o := range []sift.Order{&least{}, greatest{}} {
						b.carry(o, x, y)
						if carries {
							b.ask()
							b = walked(t, n, way)
						}
					}
				}
				b.ask()
			}
		})
	}
}

// roller answers numbers below n that hang on a number alone.
func roller(seed uint64) func(n int) int {
	mix := seed*2654435761 + 12345
	return func(n int) int {
		mix = mix*6364136223846793005 + 1442695040888963407
		return int(mix>>33) % n
	}
}

// keyed is an Order by keys; the lesser number is ahead of the same key.
type keyed []int

func (k keyed) Ahead(a, b int) bool {
	if k[a] == k[b] {
		return a < b
	}
	return k[a] < k[b]
}

// someRow is a row of roots, or near to one.
func (b *both) someRow(roll func(n int) int) []int {
	var row []int
	n := len(b.model.kids)
	for degree := range 8 {
		for range roll(4) {
			if x := roll(n); b.model.isRoot(x) && b.model.degree(x) == degree {
				row = append(row, x)
				break
			}
		}
	}
	if roll(12) == 0 {
		row = append(row, roll(n+2)-1)
	}
	if roll(12) == 0 {
		slices.Reverse(row)
	}
	return row
}

// TestMixedWays goes long ways with more things; sometimes much is put together, sometimes much comes off.
func TestMixedWays(t *testing.T) {
	for n := 1; n <= 40; n += 3 {
		for seed := range uint64(8) {
			roll := roller(seed)
			b := newBoth(t, n)
			for i := range 300 {
				keys := make(keyed, n)
				for x := range keys {
					keys[x] = roll(10)
				}
				switch few := 3 * (i / 50 % 2); {
				case roll(6) < few:
					b.split(roll(n+2) - 1)
				case roll(4) == 0:
					b.lift(roll(n+2) - 1)
				case roll(2) == 0:
					b.link(roll(n+2)-1, roll(n+2)-1)
				default:
					b.carry(keys, b.someRow(roll), b.someRow(roll))
				}
				b.ask()
			}
		}
	}
}

package gauge

import (
	"math/big"
	"slices"
	"strconv"
	"testing"

	"haycock/api"
)

const (
	leastInt    = -1 << 63
	greatestInt = 1<<63 - 1
)

// rightConfigs are all of which Check is 0, in the order of Kinds.
var rightConfigs = []api.Config{
	{Kind: 1, D: 0},
	{Kind: 2, D: 2}, {Kind: 2, D: 3}, {Kind: 2, D: 4}, {Kind: 2, D: 5}, {Kind: 2, D: 6},
	{Kind: 2, D: 7}, {Kind: 2, D: 8}, {Kind: 2, D: 9}, {Kind: 2, D: 10}, {Kind: 2, D: 11},
	{Kind: 2, D: 12}, {Kind: 2, D: 13}, {Kind: 2, D: 14}, {Kind: 2, D: 15}, {Kind: 2, D: 16},
	{Kind: 3, D: 0}, {Kind: 4, D: 0}, {Kind: 5, D: 0}, {Kind: 6, D: 0}, {Kind: 7, D: 0}, {Kind: 8, D: 0},
}

// wrongKinds are below 1, or above 8; some of them would be right in fewer bits.
var wrongKinds = []int{
	leastInt, leastInt + 1, -1<<32 + 1, -255, -8, -2, -1, 0,
	9, 10, 11, 16, 256 + 1, 1<<16 + 2, 1<<32 + 2, 1<<32 + 8, 1<<62 + 2, greatestInt - 1, greatestInt,
}

// edgeDegrees have those that a KindDary may have, the next ones on both sides, and far ones.
var edgeDegrees = []int{
	leastInt, leastInt + 1, leastInt + 2, -1<<32 + 2, -16, -2, -1, 0, 1, 2, 3, 4, 5, 6, 7, 8, 9, 10, 11, 12, 13, 14, 15, 16,
	17, 18, 32, 256, 256 + 2, 1 << 16, 1<<32 + 2, 1 << 32, greatestInt - 1, greatestInt,
}

// edgeSizes are those at which a bound changes, or its ways of counting could run over.
var edgeSizes = []int{
	leastInt, leastInt + 1, -1 << 62, -1<<40 - 1, -1 << 40, -1 << 32, -1000, -8, -2, -1,
	0, 1, 2, 3, 4, 5, 6, 7, 8, 9, 15, 16, 17, 63, 64, 65, 255, 256, 1000, 1<<16 - 1, 1 << 16, 1<<16 + 1,
	1<<31 - 1, 1 << 31, 1<<32 - 1, 1 << 32, 1<<32 + 1, 1<<39 - 1, 1 << 39, 1<<39 + 1,
	1<<40 - 2, 1<<40 - 1, 1 << 40, 1<<40 + 1, 1<<40 + 2, 1<<41 - 1, 1 << 41, 1 << 60, 1<<62 - 1, 1 << 62, 1<<62 + 1,
	greatestInt - 1, greatestInt,
}

// allConfigs have each kind, right or wrong, with each degree of the edges.
func allConfigs() []api.Config {
	var all []api.Config
	for _, kind := range append([]int{1, 2, 3, 4, 5, 6, 7, 8}, wrongKinds...) {
		for _, d := range edgeDegrees {
			all = append(all, api.Config{Kind: kind, D: d})
		}
	}
	return all
}

// plainCheck asks the list of all right ones.
func plainCheck(c api.Config) api.Errno {
	if slices.Contains(rightConfigs, c) {
		return 0
	}
	if slices.Contains(wrongKinds, c.Kind) {
		return 21
	}
	return 22
}

// plainBits are those of 1, 2, 3 and 4 on: how often a number can be halved, till nothing is left.
func plainBits(n int) int {
	count := 0
	for n > 0 {
		n /= 2
		count++
	}
	return count
}

// plainSize is what a size counts as.
func plainSize(n int) int {
	if n < 0 {
		return 0
	}
	if n > 1<<40 {
		return 1 << 40
	}
	return n
}

func TestCheck(t *testing.T) {
	for _, c := range allConfigs() {
		if got, want := Check(c), plainCheck(c); got != want {
			t.Errorf("Check(%v) = %d, not %d", c, got, want)
		}
	}
}

func TestCheckAtTheEdges(t *testing.T) {
	for c, want := range map[api.Config]api.Errno{
		{Kind: 0}: api.ErrKind, {Kind: 1}: api.OK, {Kind: 8}: api.OK, {Kind: 9}: api.ErrKind,
		{Kind: leastInt}: api.ErrKind, {Kind: greatestInt}: api.ErrKind,
		{Kind: 2, D: 0}: api.ErrDegree, {Kind: 2, D: 1}: api.ErrDegree, {Kind: 2, D: 2}: api.OK,
		{Kind: 2, D: 16}: api.OK, {Kind: 2, D: 17}: api.ErrDegree,
		{Kind: 2, D: leastInt}: api.ErrDegree, {Kind: 2, D: greatestInt}: api.ErrDegree,
		{Kind: 1, D: 2}: api.ErrDegree, {Kind: 1, D: -1}: api.ErrDegree, {Kind: 3, D: 2}: api.ErrDegree,
		{Kind: 4, D: 1}: api.ErrDegree, {Kind: 5, D: leastInt}: api.ErrDegree, {Kind: 6, D: greatestInt}: api.ErrDegree,
		{Kind: 7, D: 16}: api.ErrDegree, {Kind: 8, D: -2}: api.ErrDegree,
	} {
		if got := Check(c); got != want {
			t.Errorf("Check(%v) = %d, not %d", c, got, want)
		}
	}
}

// TestCheckKindAheadOfDegree: where both are wrong, the kind is told.
func TestCheckKindAheadOfDegree(t *testing.T) {
	for _, kind := range wrongKinds {
		for _, d := range edgeDegrees {
			if got := Check(api.Config{Kind: kind, D: d}); got != api.ErrKind {
				t.Errorf("Check of the kind %d and %d = %d", kind, d, got)
			}
		}
	}
}

func TestKinds(t *testing.T) {
	if got := Kinds(); !slices.Equal(got, rightConfigs) {
		t.Errorf("Kinds() = %v", got)
	}
}

// TestKindsAreNew: what is written over one answer, its spare room included, is in no other one.
func TestKindsAreNew(t *testing.T) {
	a, b := Kinds(), Kinds()
	a = a[:cap(a)]
	for i := range a {
		a[i] = api.Config{Kind: -7, D: -7}
	}
	if !slices.Equal(b, rightConfigs) || !slices.Equal(Kinds(), rightConfigs) {
		t.Error("answers share memory")
	}
	if slices.Contains(b[:cap(b)], a[0]) {
		t.Error("answers share spare room")
	}
}

func TestArity(t *testing.T) {
	for _, c := range allConfigs() {
		want := 0
		if plainCheck(c) == 0 {
			want = []int{0, 2, c.D, 0, 0, 0, 0, 0, 0}[c.Kind]
		}
		if got := Arity(c); got != want {
			t.Errorf("Arity(%v) = %d, not %d", c, got, want)
		}
	}
	for c, want := range map[api.Config]int{
		{Kind: 1}: 2, {Kind: 1, D: 2}: 0, {Kind: 1, D: -1}: 0, {Kind: 2, D: 1}: 0, {Kind: 2, D: 2}: 2, {Kind: 2, D: 3}: 3,
		{Kind: 2, D: 16}: 16, {Kind: 2, D: 17}: 0, {Kind: 2, D: -2}: 0, {Kind: 2}: 0, {Kind: 3}: 0, {Kind: 8}: 0, {Kind: 9, D: 3}: 0, {D: 2}: 0,
	} {
		if got := Arity(c); got != want {
			t.Errorf("Arity(%v) = %d, not %d", c, got, want)
		}
	}
}

func TestBits(t *testing.T) {
	for n, want := range map[int]int{
		leastInt: 0, leastInt + 1: 0, -1 << 40: 0, -2: 0, -1: 0, 0: 0,
		1: 1, 2: 2, 3: 2, 4: 3, 5: 3, 6: 3, 7: 3, 8: 4, 9: 4, 255: 8, 256: 9, 257: 9,
		1<<31 - 1: 31, 1 << 31: 32, 1<<32 - 1: 32, 1 << 32: 33, 1<<40 - 1: 40, 1 << 40: 41, 1<<40 + 1: 41,
		1<<53 + 1: 54, 1<<62 - 1: 62, 1 << 62: 63, greatestInt - 1: 63, greatestInt: 63,
	} {
		if got := Bits(n); got != want {
			t.Errorf("Bits(%d) = %d, not %d", n, got, want)
		}
	}
}

// TestBitsAsWritten holds them against the length of a number that is written in noughts and ones.
func TestBitsAsWritten(t *testing.T) {
	ask := func(n int) {
		if got, want := Bits(n), len(strconv.FormatInt(int64(n), 2)); n > 0 && got != want {
			t.Errorf("Bits(%d) = %d, not %d", n, got, want)
		}
		if got := Bits(-n); n >= 0 && got != 0 {
			t.Errorf("Bits(%d) = %d", -n, got)
		}
	}
	for n := range 5000 {
		ask(n)
	}
	for i := range 63 {
		for d := -2; d <= 2; d++ {
			ask(1<<i + d)
		}
	}
}

func TestLimit(t *testing.T) {
	for _, c := range allConfigs() {
		factor := 0
		if plainCheck(c) == 0 {
			factor = []int{0, 2, c.D, 4, 0, 0, 4, 0, 4}[c.Kind]
		}
		for _, m := range edgeSizes {
			want := factor * (2 + plainBits(plainSize(m)))
			if got := Limit(c, m); got != want {
				t.Errorf("Limit(%v, %d) = %d, not %d", c, m, got, want)
			}
		}
	}
}

func TestLimitAtTheEdges(t *testing.T) {
	for _, x := range []struct {
		c       api.Config
		m, want int
	}{
		{api.Config{Kind: 1}, 7, 10}, {api.Config{Kind: 1}, 8, 12}, {api.Config{Kind: 1}, 0, 4}, {api.Config{Kind: 1}, -1, 4},
		{api.Config{Kind: 1}, leastInt, 4}, {api.Config{Kind: 1}, 1, 6}, {api.Config{Kind: 1}, greatestInt, 86},
		{api.Config{Kind: 2, D: 2}, 7, 10}, {api.Config{Kind: 2, D: 3}, 7, 15}, {api.Config{Kind: 2, D: 16}, 0, 32},
		{api.Config{Kind: 2, D: 16}, 1<<40 - 1, 672}, {api.Config{Kind: 2, D: 16}, 1 << 40, 688}, {api.Config{Kind: 2, D: 16}, 1<<40 + 1, 688},
		{api.Config{Kind: 2, D: 16}, 1 << 41, 688}, {api.Config{Kind: 2, D: 16}, 1 << 62, 688}, {api.Config{Kind: 2, D: 16}, greatestInt, 688},
		{api.Config{Kind: 3}, 7, 20}, {api.Config{Kind: 6}, 7, 20}, {api.Config{Kind: 8}, 7, 20},
		{api.Config{Kind: 3}, leastInt, 8}, {api.Config{Kind: 6}, -1, 8}, {api.Config{Kind: 8}, greatestInt, 172},
		{api.Config{Kind: 4}, 7, 0}, {api.Config{Kind: 5}, 7, 0}, {api.Config{Kind: 7}, 7, 0},
		{api.Config{Kind: 0}, 7, 0}, {api.Config{Kind: 9}, 7, 0}, {api.Config{Kind: 1, D: 2}, 7, 0}, {api.Config{Kind: 2}, 7, 0},
		{api.Config{Kind: 2, D: 1}, 7, 0}, {api.Config{Kind: 2, D: 17}, 7, 0}, {api.Config{Kind: 2, D: -2}, 7, 0},
		{api.Config{Kind: 3, D: 2}, 7, 0}, {api.Config{Kind: 6, D: -1}, 7, 0}, {api.Config{Kind: 8, D: 16}, 7, 0},
	} {
		if got := Limit(x.c, x.m); got != x.want {
			t.Errorf("Limit(%v, %d) = %d, not %d", x.c, x.m, got, x.want)
		}
	}
}

func TestWhole(t *testing.T) {
	for _, c := range allConfigs() {
		factor := 0
		if plainCheck(c) == 0 {
			factor = []int{0, 0, 0, 0, 16, 16, 0, 16, 0}[c.Kind]
		}
		for _, n := range edgeSizes {
			size := plainSize(n)
			want := factor * size * (2 + plainBits(size))
			if got := Whole(c, n); got != want {
				t.Errorf("Whole(%v, %d) = %d, not %d", c, n, got, want)
			}
		}
	}
}

func TestWholeAtTheEdges(t *testing.T) {
	for _, x := range []struct {
		c       api.Config
		n, want int
	}{
		{api.Config{Kind: 7}, 200, 32000}, {api.Config{Kind: 4}, 1, 48}, {api.Config{Kind: 4}, 4, 320}, {api.Config{Kind: 5}, 7, 560}, {api.Config{Kind: 5}, 8, 768},
		{api.Config{Kind: 4}, 0, 0}, {api.Config{Kind: 5}, -1, 0}, {api.Config{Kind: 7}, -1 << 40, 0}, {api.Config{Kind: 4}, leastInt, 0},
		{api.Config{Kind: 4}, 1<<40 - 1, 738871813864800}, {api.Config{Kind: 4}, 1 << 40, 756463999909888}, {api.Config{Kind: 5}, 1<<40 + 1, 756463999909888},
		{api.Config{Kind: 7}, 1 << 62, 756463999909888}, {api.Config{Kind: 7}, greatestInt, 756463999909888},
		{api.Config{Kind: 1}, 7, 0}, {api.Config{Kind: 2, D: 2}, 7, 0}, {api.Config{Kind: 2, D: 16}, greatestInt, 0},
		{api.Config{Kind: 3}, 7, 0}, {api.Config{Kind: 6}, 7, 0}, {api.Config{Kind: 8}, 7, 0},
		{api.Config{Kind: 0}, 7, 0}, {api.Config{Kind: 9}, 7, 0}, {api.Config{Kind: 2, D: 1}, 7, 0},
		{api.Config{Kind: 4, D: 2}, 7, 0}, {api.Config{Kind: 5, D: -1}, 7, 0}, {api.Config{Kind: 7, D: 16}, 7, 0},
	} {
		if got := Whole(x.c, x.n); got != x.want {
			t.Errorf("Whole(%v, %d) = %d, not %d", x.c, x.n, got, x.want)
		}
	}
}

// TestOneBoundEach: the calls upon a nest of each kind are bounded one by one, or together, not both.
func TestOneBoundEach(t *testing.T) {
	for _, c := range rightConfigs {
		for _, n := range []int{1, 2, 1000, 1 << 40, greatestInt} {
			if (Limit(c, n) > 0) == (Whole(c, n) > 0) {
				t.Errorf("of %v and %d: Limit %d, Whole %d", c, n, Limit(c, n), Whole(c, n))
			}
		}
	}
}

func TestMeter(t *testing.T) {
	var m Meter
	if got := m.Steps(); got != 0 {
		t.Errorf("the zero Meter has %d steps", got)
	}
	for i, x := range []struct{ n, want int }{
		{1, 1}, {0, 1}, {2, 3}, {-1, 3}, {-3, 3}, {leastInt, 3}, {leastInt + 1, 3}, {1 << 32, 1<<32 + 3}, {-1 << 32, 1<<32 + 3}, {1, 1<<32 + 4},
	} {
		m.Count(x.n)
		if got := m.Steps(); got != x.want {
			t.Errorf("%d: behind Count(%d) %d steps, not %d", i, x.n, got, x.want)
		}
	}
	if m.Steps() != m.Steps() {
		t.Error("Steps changes what it tells")
	}
}

// TestMeterAtItsEnd counts up to 2^62, and above.
func TestMeterAtItsEnd(t *testing.T) {
	const end = 1 << 62
	for i, l := range [][][2]int{
		{{end - 1, end - 1}, {0, end - 1}, {-1, end - 1}, {1, end}, {1, end}, {0, end}, {-1, end}, {leastInt, end}, {greatestInt, end}},
		{{end, end}, {end, end}, {end, end}, {-end, end}},
		{{end + 1, end}, {1, end}},
		{{end - 1, end - 1}, {2, end}},
		{{greatestInt, end}, {greatestInt, end}, {leastInt, end}},
		{{greatestInt - 1, end}},
		{{1, 1}, {greatestInt, end}},
		{{1, 1}, {end - 2, end - 1}, {greatestInt, end}},
		{{1, 1}, {end - 1, end}},
		{{1 << 61, 1 << 61}, {1<<61 - 1, end - 1}, {1 << 61, end}},
	} {
		var m Meter
		for k, x := range l {
			m.Count(x[0])
			if got := m.Steps(); got != x[1] {
				t.Errorf("%d, %d: behind Count(%d) %d steps, not %d", i, k, x[0], got, x[1])
			}
		}
	}
}

// TestMeterByLongSums holds two Counts, one behind the other, against sums that can't run over.
func TestMeterByLongSums(t *testing.T) {
	end := big.NewInt(1 << 62)
	for _, a := range edgeSizes {
		for _, b := range edgeSizes {
			var m Meter
			sum := new(big.Int)
			for _, n := range []int{a, b} {
				m.Count(n)
				if n > 0 {
					sum.Add(sum, big.NewInt(int64(n)))
				}
				if sum.Cmp(end) > 0 {
					sum.Set(end)
				}
				if got := m.Steps(); int64(got) != sum.Int64() {
					t.Errorf("Counts of %d and %d: %d steps, not %d", a, b, got, sum)
				}
			}
		}
	}
}

// TestMetersApart: each Meter has steps of its own, a copy too, and one that is embedded.
func TestMetersApart(t *testing.T) {
	var a, b Meter
	a.Count(5)
	c := a
	c.Count(2)
	var d struct{ Meter }
	d.Count(9)
	if a.Steps() != 5 || b.Steps() != 0 || c.Steps() != 7 || d.Steps() != 9 {
		t.Error(a.Steps(), b.Steps(), c.Steps(), d.Steps())
	}
}

// TestAnswersStay asks twice, with other calls between: nothing is kept (P2).
func TestAnswersStay(t *testing.T) {
	ask := func() []int {
		var l []int
		for _, c := range allConfigs() {
			l = append(l, int(Check(c)), Arity(c))
			for _, n := range edgeSizes {
				l = append(l, Bits(n), Limit(c, n), Whole(c, n))
			}
		}
		return l
	}
	first := ask()
	var m Meter
	m.Count(greatestInt)
	Kinds()[0] = api.Config{}
	if !slices.Equal(first, ask()) {
		t.Error("the second answers are others than the first ones")
	}
}

func FuzzBounds(f *testing.F) {
	for _, c := range append(slices.Clone(rightConfigs), api.Config{}, api.Config{Kind: 9, D: 2}, api.Config{Kind: 4, D: 2}) {
		for _, n := range []int{-1, 0, 7, 1 << 40, greatestInt} {
			f.Add(c.Kind, c.D, n)
		}
	}
	f.Fuzz(func(t *testing.T, kind, d, n int) {
		c := api.Config{Kind: kind, D: d}
		right := slices.Contains(rightConfigs, c)
		if (Check(c) == api.OK) != right {
			t.Errorf("Check(%v) = %d", c, Check(c))
		}
		limit, whole := Limit(c, n), Whole(c, n)
		if limit < 0 || whole < 0 || !right && (limit != 0 || whole != 0 || Arity(c) != 0) {
			t.Errorf("of %v and %d: Limit %d, Whole %d, Arity %d", c, n, limit, whole, Arity(c))
		}
		if limit != Limit(c, plainSize(n)) || whole != Whole(c, plainSize(n)) || Bits(n) != plainBits(n) {
			t.Errorf("of %v and %d: Limit %d, Whole %d, Bits %d", c, n, limit, whole, Bits(n))
		}
	})
}

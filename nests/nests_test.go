// Package nests has the tests that all kinds of nests share: of each kind they ask for the calls of a nest (P5.4 of
// shared/doc/05-cells.md), and for no more steps than its chapter allows.
package nests

import (
	"slices"
	"strconv"
	"testing"

	"haycock/api"
	"haycock/binomial"
	"haycock/dary"
	"haycock/fibonacci"
	"haycock/gauge"
	"haycock/leftist"
	"haycock/pairing"
	"haycock/shed"
	"haycock/skew"
)

// calls are those of P5.4, but New.
type calls interface {
	Capacity() int
	Make() int
	Has(h int) bool
	Len(h int) int
	Insert(h, slot int, e api.Entry) bool
	Min(h int) (int, bool)
	Extract(h int) (int, bool)
	Decrease(slot int, e api.Entry) bool
	Delete(slot int) bool
	Meld(a, b int) bool
	Entry(slot int) (api.Entry, bool)
	Home(slot int) (int, bool)
	Steps() int
}

// kind is a kind of nests.
type kind struct {
	name string
	open func(capacity int) (calls, api.Errno)
	// call is how many steps a call may take, but Meld, upon a heap with so many slots.
	call func(in int) int
	// meld is how many steps a Meld may take of two heaps with so many slots.
	meld func(a, b int) int
	// whole is how many steps the first so many calls may take together, whichever they are.
	whole func(calls int) int
	// brief: others like it stand for it where a test takes long.
	brief bool
}

// kinds are all that are built.
func kinds() []kind {
	library := api.Config{Kind: api.KindLibrary}
	all := []kind{
		{name: "shed", open: opener(shed.New), call: each(library), meld: bySlots(library), whole: unbounded},
		alike("leftist", opener(leftist.New), api.Config{Kind: api.KindLeftist}),
		together("skew", opener(skew.New), api.Config{Kind: api.KindSkew}),
		alike("binomial", opener(binomial.New), api.Config{Kind: api.KindBinomial}),
		together("pairing", opener(pairing.New), api.Config{Kind: api.KindPairing}),
		together("fibonacci", opener(fibonacci.New), api.Config{Kind: api.KindFibonacci}),
	}
	for d := 2; d <= 16; d++ {
		all = append(all, rows(d))
	}
	return all
}

// rows is the kind of heaps in rows, with so many children each. Those with the fewest and with the most children stand for
// the others.
func rows(d int) kind {
	c := api.Config{Kind: api.KindDary, D: d}
	open := func(capacity int) (*dary.Nest, api.Errno) { return dary.New(capacity, d) }
	return kind{
		name: "dary " + strconv.Itoa(d), open: opener(open),
		call: each(c), meld: bySlots(c), whole: unbounded, brief: d != 2 && d != 16,
	}
}

// alike is a kind of which a Meld is bounded as all other calls are.
func alike(name string, open func(capacity int) (calls, api.Errno), c api.Config) kind {
	return kind{name: name, open: open, call: each(c), meld: asOne(c), whole: unbounded}
}

// together is a kind whose calls are bounded together alone.
func together(name string, open func(capacity int) (calls, api.Errno), c api.Config) kind {
	return kind{
		name: name, open: open,
		call: unbounded, meld: func(a, b int) int { return unbounded(a + b) },
		whole: func(calls int) int { return gauge.Whole(c, calls) },
	}
}

// unbounded: it may take any steps.
func unbounded(int) int {
	return greatestInt
}

// opener is a kind's New; no nest is none of the calls, either.
func opener[N any, P interface {
	*N
	calls
}](open func(capacity int) (P, api.Errno)) func(capacity int) (calls, api.Errno) {
	return func(capacity int) (calls, api.Errno) {
		n, e := open(capacity)
		if n == nil {
			return nil, e
		}
		return n, e
	}
}

// each: a call takes no more than the Limit of one more than how many slots there are.
func each(c api.Config) func(in int) int {
	return func(in int) int { return gauge.Limit(c, in+1) }
}

// bySlots: a Meld takes no more than the Limit as often as the lesser heap has slots, and once more.
func bySlots(c api.Config) func(a, b int) int {
	return func(a, b int) int { return gauge.Limit(c, a+b+1) * (min(a, b) + 1) }
}

// asOne: a Meld takes no more than any call upon a heap with the slots of both.
func asOne(c api.Config) func(a, b int) int {
	return func(a, b int) int { return gauge.Limit(c, a+b+1) }
}

// forEach runs a test of each kind.
func forEach(t *testing.T, test func(t *testing.T, k kind)) {
	t.Helper()
	runAll(t, kinds(), test)
}

// forFew runs a test that takes long: of each kind but the brief ones.
func forFew(t *testing.T, test func(t *testing.T, k kind)) {
	t.Helper()
	runAll(t, slices.DeleteFunc(kinds(), func(k kind) bool { return k.brief }), test)
}

// runAll runs a test of some kinds, of several ones at a time.
func runAll(t *testing.T, some []kind, test func(t *testing.T, k kind)) {
	t.Helper()
	for _, k := range some {
		t.Run(k.name, func(t *testing.T) {
			t.Parallel()
			test(t, k)
		})
	}
}

const (
	leastInt    = -1 << 63
	greatestInt = 1<<63 - 1
	greatestSeq = 1<<64 - 1
)

// farNumbers are of no slot and of no heap; some of them would be of one in fewer bits.
var farNumbers = []int{
	leastInt, leastInt + 1, leastInt + 2, -1 << 62, -1 << 32, -1<<32 + 1, -65537, -65536, -65535, -3, -2, -1,
	65537, 65538, 1 << 17, 1<<31 - 1, 1 << 31, 1 << 32, 1<<32 + 1, 1<<32 + 2, 1 << 62, greatestInt - 1, greatestInt,
}

// risingEntries rise; among them are the edges, and such as a sign or fewer bits would turn round.
var risingEntries = []api.Entry{
	{Key: leastInt}, {Key: leastInt, Seq: 1}, {Key: leastInt, Seq: greatestSeq}, {Key: leastInt + 1}, {Key: -1 << 32, Seq: 9},
	{Key: -2, Seq: 1 << 63}, {Key: -1}, {Key: -1, Seq: greatestSeq}, {}, {Seq: 1}, {Seq: 1<<63 - 1}, {Seq: 1 << 63}, {Seq: greatestSeq},
	{Key: 1}, {Key: 1, Seq: 1 << 32}, {Key: 1<<31 - 1}, {Key: 1 << 31}, {Key: 1 << 32}, {Key: 1<<32 + 1}, {Key: 1 << 62, Seq: 5},
	{Key: greatestInt - 1, Seq: greatestSeq}, {Key: greatestInt}, {Key: greatestInt, Seq: 1}, {Key: greatestInt, Seq: greatestSeq},
}

// key is an entry of that key.
func key(k int64) api.Entry {
	return api.Entry{Key: k}
}

// roller tells numbers below n that hang on the seed alone.
func roller(seed uint64) func(n int) int {
	mix := seed*2654435761 + 12345
	return func(n int) int {
		mix = mix*6364136223846793005 + 1442695040888963407
		return int(mix>>33) % n
	}
}

// shuffled is the numbers from 0 to below n, mixed.
func shuffled(n int, roll func(n int) int) []int {
	all := make([]int, n)
	for i := range all {
		k := roll(i + 1)
		all[i] = all[k]
		all[k] = i
	}
	return all
}

package pq

import (
	"slices"
	"strconv"
	"testing"

	"haycock/api"
	"haycock/entry"
	"haycock/gauge"
)

const (
	leastInt    = -1 << 63
	greatestInt = 1<<63 - 1
	greatestGen = 1<<32 - 1
	// mostSlots is the greatest capacity, mostHeaps how many heaps there may be.
	mostSlots, mostHeaps = 65536, 65536
)

// farNumbers are of no slot and of no heap; some of them would be of one in fewer bits.
var farNumbers = []int{
	leastInt, leastInt + 1, leastInt + 2, -1 << 62, -1 << 32, -1<<32 + 1, -65537, -65536, -65535, -3, -2, -1,
	65537, 65538, 1 << 17, 1<<31 - 1, 1 << 31, 1 << 32, 1<<32 + 1, 1<<32 + 2, 1 << 62, greatestInt - 1, greatestInt,
}

// risingKeys rise; among them are the edges, and such as a sign or fewer bits would turn round.
var risingKeys = []int64{
	leastInt, leastInt + 1, -1 << 62, -1<<32 - 1, -1 << 32, -2, -1, 0, 1, 2, 1<<31 - 1, 1 << 31, 1 << 32, 1<<32 + 1, 1 << 62,
	greatestInt - 1, greatestInt,
}

// call is one upon a store, by its number among the records' kinds, with two heaps, or a handle, and a key.
type call struct {
	op   int
	a, b int
	x    api.Handle
	key  int64
}

// calls are those that a plain store has, too.
type calls interface {
	NewHeap() (int, api.Errno)
	Insert(h int, key int64) (api.Handle, api.Errno)
	Min(h int) (api.Handle, int64, api.Errno)
	ExtractMin(h int) (api.Handle, int64, api.Errno)
	DecreaseKey(x api.Handle, key int64) api.Errno
	Delete(x api.Handle) (int64, api.Errno)
	Meld(a, b int) api.Errno
	Len(h int) (int, api.Errno)
	Key(x api.Handle) (int64, api.Errno)
	Home(x api.Handle) (int, api.Errno)
	Live() int
}

// of does the call upon a store; whatever is answered is in the reply.
func (c call) of(s calls) api.Reply {
	var r api.Reply
	switch c.op {
	case api.OpNew:
		r.Heap, r.Code = s.NewHeap()
	case api.OpInsert:
		r.Handle, r.Code = s.Insert(c.a, c.key)
	case api.OpMin:
		r.Handle, r.Key, r.Code = s.Min(c.a)
	case api.OpExtract:
		r.Handle, r.Key, r.Code = s.ExtractMin(c.a)
	case api.OpDecrease:
		r.Code = s.DecreaseKey(c.x, c.key)
	case api.OpDelete:
		r.Key, r.Code = s.Delete(c.x)
	case api.OpMeld:
		r.Code = s.Meld(c.a, c.b)
	case api.OpLen:
		r.N, r.Code = s.Len(c.a)
	case api.OpKey:
		r.Key, r.Code = s.Key(c.x)
	case api.OpHome:
		r.Heap, r.Code = s.Home(c.x)
	}
	return r
}

// place is how a slot stands that was ever given out; its heap is 0, if its handle isn't live.
type place struct {
	gen   uint32
	home  int
	entry api.Entry
}

// plain is a store by what the chapters say alone.
type plain struct {
	capacity int
	most     uint32
	heaps    []bool
	places   []place
	// waiting are the slots that were given back, and go out again, the next one last.
	waiting []int
	seq     uint64
}

func (p *plain) hasHeap(h int) bool {
	return h >= 1 && h <= len(p.heaps) && p.heaps[h-1]
}

// at is the place of a live handle; nil of another one.
func (p *plain) at(x api.Handle) *place {
	if x.Slot < 0 || x.Slot >= len(p.places) || p.places[x.Slot].home == 0 || p.places[x.Slot].gen != x.Gen {
		return nil
	}
	return &p.places[x.Slot]
}

func (p *plain) NewHeap() (int, api.Errno) {
	if len(p.heaps) == mostHeaps {
		return 0, api.ErrFull
	}
	p.heaps = append(p.heaps, true)
	return len(p.heaps), 0
}

func (p *plain) Insert(h int, key int64) (api.Handle, api.Errno) {
	if !p.hasHeap(h) {
		return api.Handle{}, api.ErrNoHeap
	}
	slot := len(p.places)
	if last := len(p.waiting) - 1; last >= 0 {
		slot, p.waiting = p.waiting[last], p.waiting[:last]
	} else if slot < p.capacity {
		p.places = append(p.places, place{})
	} else {
		return api.Handle{}, api.ErrFull
	}
	p.seq++
	gen := p.places[slot].gen + 1
	p.places[slot] = place{gen: gen, home: h, entry: api.Entry{Key: key, Seq: p.seq}}
	return api.Handle{Slot: slot, Gen: gen}, 0
}

func (p *plain) Min(h int) (api.Handle, int64, api.Errno) {
	if !p.hasHeap(h) {
		return api.Handle{}, 0, api.ErrNoHeap
	}
	best := -1
	for slot, at := range p.places {
		if at.home == h && (best < 0 || entry.Less(at.entry, p.places[best].entry)) {
			best = slot
		}
	}
	if best < 0 {
		return api.Handle{}, 0, api.ErrEmpty
	}
	return api.Handle{Slot: best, Gen: p.places[best].gen}, p.places[best].entry.Key, 0
}

func (p *plain) ExtractMin(h int) (api.Handle, int64, api.Errno) {
	x, key, e := p.Min(h)
	if e == 0 {
		p.Delete(x)
	}
	return x, key, e
}

func (p *plain) DecreaseKey(x api.Handle, key int64) api.Errno {
	at := p.at(x)
	if at == nil {
		return api.ErrStale
	}
	if key > at.entry.Key {
		return api.ErrKeyUp
	}
	at.entry.Key = key
	return 0
}

func (p *plain) Delete(x api.Handle) (int64, api.Errno) {
	at := p.at(x)
	if at == nil {
		return 0, api.ErrStale
	}
	key := at.entry.Key
	*at = place{gen: at.gen}
	if at.gen < p.most {
		p.waiting = append(p.waiting, x.Slot)
	}
	return key, 0
}

func (p *plain) Meld(a, b int) api.Errno {
	if !p.hasHeap(a) || !p.hasHeap(b) {
		return api.ErrNoHeap
	}
	if a == b {
		return api.ErrSame
	}
	p.heaps[b-1] = false
	for slot := range p.places {
		if p.places[slot].home == b {
			p.places[slot].home = a
		}
	}
	return 0
}

func (p *plain) Len(h int) (int, api.Errno) {
	if !p.hasHeap(h) {
		return 0, api.ErrNoHeap
	}
	n := 0
	for _, at := range p.places {
		if at.home == h {
			n++
		}
	}
	return n, 0
}

func (p *plain) Key(x api.Handle) (int64, api.Errno) {
	if at := p.at(x); at != nil {
		return at.entry.Key, 0
	}
	return 0, api.ErrStale
}

func (p *plain) Home(x api.Handle) (int, api.Errno) {
	if at := p.at(x); at != nil {
		return at.home, 0
	}
	return 0, api.ErrStale
}

func (p *plain) Live() int {
	n := 0
	for _, at := range p.places {
		if at.home != 0 {
			n++
		}
	}
	return n
}

// gauged is a store whose steps are held against what they may be (P17.6), behind each call.
type gauged struct {
	t     *testing.T
	s     *Store
	calls int
}

// open is a gauged store with so many heaps.
func open(t *testing.T, c api.Config, capacity int, most uint32, heaps int) *gauged {
	t.Helper()
	s, e := Open(c, capacity, most)
	if e != api.OK || s == nil {
		t.Fatalf("Open(%v, %d, %d) = %v, %d", c, capacity, most, s, e)
	}
	g := &gauged{t: t, s: s, calls: 1}
	for h := range heaps {
		if r := g.do(call{op: api.OpNew}); r != (api.Reply{Heap: h + 1}) {
			t.Fatalf("NewHeap: %v, not %d", r, h+1)
		}
	}
	return g
}

// do does a call, and asks for no more steps than it may take, and than all calls up to it may.
func (g *gauged) do(c call) api.Reply {
	g.t.Helper()
	most, before := g.most(c), g.s.Steps()
	r := c.of(g.s)
	g.calls++
	steps := g.s.Steps()
	if steps < before || steps-before > most {
		g.t.Fatalf("%v took %d steps, not at most %d", c, steps-before, most)
	}
	if whole := gauge.Whole(g.s.Config(), 2*g.calls); steps > whole && bounded(g.s.Config()) == together {
		g.t.Fatalf("%d calls took %d steps, not at most %d", g.calls, steps, whole)
	}
	return r
}

// How calls are bounded: each by itself, with a Meld as often as the lesser heap has entries, or as any other call; or together.
const (
	byEntries = iota
	asOne
	together
)

func bounded(c api.Config) int {
	switch c.Kind {
	case api.KindBinary, api.KindDary, api.KindLibrary:
		return byEntries
	case api.KindBinomial, api.KindLeftist:
		return asOne
	}
	return together
}

// most is how many steps a call may take by itself.
func (g *gauged) most(c call) int {
	if bounded(g.s.Config()) == together {
		return greatestInt
	}
	in, times := 0, 1
	switch c.op {
	case api.OpMeld:
		a, _ := g.s.Len(c.a)
		b, _ := g.s.Len(c.b)
		in = a + b
		if bounded(g.s.Config()) == byEntries {
			times = min(a, b) + 1
		}
	case api.OpInsert, api.OpMin, api.OpExtract, api.OpLen:
		in, _ = g.s.Len(c.a)
	case api.OpDecrease, api.OpDelete, api.OpKey, api.OpHome:
		h, _ := g.s.Home(c.x)
		in, _ = g.s.Len(h)
	}
	return times * 2 * gauge.Limit(g.s.Config(), in+1)
}

// pair is a gauged store, and a plain one that is asked the same.
type pair struct {
	*gauged
	p *plain
}

func newPair(t *testing.T, c api.Config, capacity int, most uint32, heaps int) *pair {
	t.Helper()
	x := &pair{gauged: open(t, c, capacity, most, heaps), p: &plain{capacity: capacity, most: most}}
	for range heaps {
		x.p.NewHeap()
	}
	return x
}

// do does a call upon both, and tells what both answer.
func (x *pair) do(c call) api.Reply {
	x.t.Helper()
	want, got := c.of(x.p), x.gauged.do(c)
	if got != want {
		x.t.Fatalf("%v: %v, not %v", c, got, want)
	}
	return got
}

// wants does a call, and asks for a reply that is told, of both.
func (x *pair) wants(c call, want api.Reply) {
	x.t.Helper()
	if got := x.do(c); got != want {
		x.t.Fatalf("%v: %v, not %v", c, got, want)
	}
}

// fails does a call that answers an error, and nothing beside it.
func (x *pair) fails(c call, e api.Errno) {
	x.t.Helper()
	x.wants(c, api.Reply{Code: e})
}

func (x *pair) newHeap() int {
	x.t.Helper()
	return x.do(call{op: api.OpNew}).Heap
}

func (x *pair) insert(h int, key int64) api.Handle {
	x.t.Helper()
	return x.do(call{op: api.OpInsert, a: h, key: key}).Handle
}

// fill puts keys into a heap, and tells their handles.
func (x *pair) fill(h int, keys ...int64) []api.Handle {
	x.t.Helper()
	var all []api.Handle
	for _, k := range keys {
		all = append(all, x.insert(h, k))
	}
	return all
}

func (x *pair) min(h int) {
	x.t.Helper()
	x.do(call{op: api.OpMin, a: h})
}

func (x *pair) extract(h int) {
	x.t.Helper()
	x.do(call{op: api.OpExtract, a: h})
}

func (x *pair) decrease(at api.Handle, key int64) {
	x.t.Helper()
	x.do(call{op: api.OpDecrease, x: at, key: key})
}

func (x *pair) delete(at api.Handle) {
	x.t.Helper()
	x.do(call{op: api.OpDelete, x: at})
}

func (x *pair) meld(a, b int) {
	x.t.Helper()
	x.do(call{op: api.OpMeld, a: a, b: b})
}

// askHandle holds what can be asked of a handle.
func (x *pair) askHandle(at api.Handle) {
	x.t.Helper()
	x.do(call{op: api.OpKey, x: at})
	x.do(call{op: api.OpHome, x: at})
}

// ask holds all that can be asked without a change.
func (x *pair) ask() {
	x.t.Helper()
	if x.s.Live() != x.p.Live() || x.s.Capacity() != x.p.capacity {
		x.t.Fatalf("Live, Capacity: %d, %d, not %d, %d", x.s.Live(), x.s.Capacity(), x.p.Live(), x.p.capacity)
	}
	for h := -1; h <= len(x.p.heaps)+1; h++ {
		x.do(call{op: api.OpLen, a: h})
		x.min(h)
	}
	for slot := -1; slot <= x.p.capacity; slot++ {
		gen := uint32(0)
		if slot >= 0 && slot < len(x.p.places) {
			gen = x.p.places[slot].gen
		}
		// One generation less than none is the greatest one.
		for _, g := range []uint32{gen - 1, gen, gen + 1} {
			x.askHandle(api.Handle{Slot: slot, Gen: g})
		}
	}
}

// drain takes all out of a heap, one behind the other, and once more.
func (x *pair) drain(h int) {
	x.t.Helper()
	n, e := x.p.Len(h)
	for range n {
		x.extract(h)
	}
	if e == 0 {
		x.fails(call{op: api.OpExtract, a: h}, api.ErrEmpty)
	} else {
		x.fails(call{op: api.OpExtract, a: h}, api.ErrNoHeap)
	}
}

// drainAll takes all out of all heaps.
func (x *pair) drainAll() {
	x.t.Helper()
	for h := -1; h <= len(x.p.heaps)+1; h++ {
		x.drain(h)
	}
}

// forEach runs a test of each Config that can be, of several ones at a time.
func forEach(t *testing.T, test func(t *testing.T, c api.Config)) {
	t.Helper()
	runAll(t, configs(), test)
}

// forFew runs a test that takes long: of the KindDary those with the fewest and with the most children alone.
func forFew(t *testing.T, test func(t *testing.T, c api.Config)) {
	t.Helper()
	brief := func(c api.Config) bool { return c.D > 2 && c.D < 16 }
	runAll(t, slices.DeleteFunc(configs(), brief), test)
}

func runAll(t *testing.T, some []api.Config, test func(t *testing.T, c api.Config)) {
	t.Helper()
	for _, c := range some {
		t.Run("kind "+strconv.Itoa(c.Kind)+" d "+strconv.Itoa(c.D), func(t *testing.T) {
			t.Parallel()
			test(t, c)
		})
	}
}

// configs are all that can be: they are told one by one, so that none is left out.
func configs() []api.Config {
	all := []api.Config{{Kind: 1}, {Kind: 3}, {Kind: 4}, {Kind: 5}, {Kind: 6}, {Kind: 7}, {Kind: 8}}
	for d := 2; d <= 16; d++ {
		all = append(all, api.Config{Kind: 2, D: d})
	}
	return all
}

// roller tells numbers below n that hang on the seed alone.
func roller(seed uint64) func(n int) int {
	mix := seed*2654435761 + 12345
	return func(n int) int {
		mix = mix*6364136223846793005 + 1442695040888963407
		return int(mix>>33) % n
	}
}

// shuffled is the numbers from 0 to below n, mixed.
func shuffled(n int, roll func(n int) int) []int {
	all := make([]int, n)
	for i := range all {
		k := roll(i + 1)
		all[i] = all[k]
		all[k] = i
	}
	return all
}

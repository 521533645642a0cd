package play

import (
	"strconv"
	"strings"
	"testing"

	"haycock/api"
	"haycock/gauge"
	"haycock/pq"
	"haycock/record"
)

const (
	leastInt     = -1 << 63
	greatestInt  = 1<<63 - 1
	greatestHalf = 1<<32 - 1
	// mostSlots, mostHeaps and mostText are the limits that a store and a text have.
	mostSlots, mostHeaps, mostText = 65536, 65536, 65536
)

// farOps are of no operation; some of them would be of one in fewer bits.
var farOps = []int{
	leastInt, leastInt + 1, leastInt + 2, -1 << 32, -1<<32 + 2, -65535, -256, -255, -254, -246, -11, -10, -9, -2, -1,
	11, 12, 13, 17, 100, 127, 128, 255, 256, 257, 258, 266, 512, 65536, 65537, 1<<31 - 1, 1 << 31, 1 << 32, 1<<32 + 1, 1<<32 + 10,
	1 << 62, greatestInt - 1, greatestInt,
}

// farHalves are of no heap and of no slot; some of them would be of one in fewer bits, or with a sign.
var farHalves = []uint32{
	65537, 65538, 65539, 1 << 17, 1<<17 + 1, 1 << 24, 1<<31 - 1, 1 << 31, 1<<31 + 1, greatestHalf - 1, greatestHalf,
}

// someKeys are keys of all sizes, and both signs.
var someKeys = []int64{
	leastInt, leastInt + 1, -1 << 62, -1<<32 - 1, -1 << 32, -65536, -256, -10, -2, -1,
	0, 1, 2, 9, 10, 255, 65535, 1<<31 - 1, 1 << 31, 1 << 32, 1<<53 + 1, 1 << 62, greatestInt - 1, greatestInt,
}

// wrongStores are what no store is opened of, and the error: the Config's ahead of that of the range.
var wrongStores = []struct {
	c        api.Config
	capacity int
	most     uint32
	want     api.Errno
}{
	{api.Config{}, 1, 1, api.ErrKind},
	{api.Config{}, -1, 0, api.ErrKind},
	{api.Config{Kind: 9}, 1, 1, api.ErrKind},
	{api.Config{Kind: -1, D: 4}, 1, 1, api.ErrKind},
	{api.Config{Kind: 1<<32 + 1}, 1, 1, api.ErrKind},
	{api.Config{Kind: api.KindDary}, 1, 1, api.ErrDegree},
	{api.Config{Kind: api.KindDary, D: 1}, 1, 1, api.ErrDegree},
	{api.Config{Kind: api.KindDary, D: 17}, -1, 0, api.ErrDegree},
	{api.Config{Kind: api.KindBinary, D: 2}, 1, 1, api.ErrDegree},
	{api.Config{Kind: api.KindSkew, D: -1}, 1, 1, api.ErrDegree},
	{api.Config{Kind: api.KindBinary}, -1, 1, api.ErrRange},
	{api.Config{Kind: api.KindDary, D: 16}, 65537, 1, api.ErrRange},
	{api.Config{Kind: api.KindPairing}, 1, 0, api.ErrRange},
	{api.Config{Kind: api.KindLibrary}, leastInt, 0, api.ErrRange},
	{api.Config{Kind: api.KindSkew}, greatestInt, greatestHalf, api.ErrRange},
}

// some is a Config for what hangs on no kind.
var some = api.Config{Kind: api.KindBinary}

// forEach runs a test of each Config that can be, of several ones at a time.
func forEach(t *testing.T, test func(t *testing.T, c api.Config)) {
	t.Helper()
	for _, c := range gauge.Kinds() {
		t.Run("kind "+strconv.Itoa(c.Kind)+" d "+strconv.Itoa(c.D), func(t *testing.T) {
			t.Parallel()
			test(t, c)
		})
	}
}

// open is a store that can be.
func open(t *testing.T, c api.Config, capacity int, most uint32) *pq.Store {
	t.Helper()
	s, e := pq.Open(c, capacity, most)
	if e != api.OK || s == nil {
		t.Fatalf("Open(%v, %d, %d) = %v, %d", c, capacity, most, s, e)
	}
	return s
}

// plainOne is One, call by call.
func plainOne(s *pq.Store, r api.Record) api.Reply {
	var a api.Reply
	x := api.Handle{Slot: int(r.A), Gen: r.B}
	switch r.Op {
	case 1:
		a.Heap, a.Code = s.NewHeap()
	case 2:
		a.Handle, a.Code = s.Insert(int(r.A), r.Key)
	case 3:
		a.Handle, a.Key, a.Code = s.Min(int(r.A))
	case 4:
		a.Handle, a.Key, a.Code = s.ExtractMin(int(r.A))
	case 5:
		a.Code = s.DecreaseKey(x, r.Key)
	case 6:
		a.Key, a.Code = s.Delete(x)
	case 7:
		a.Code = s.Meld(int(r.A), int(r.B))
	case 8:
		a.N, a.Code = s.Len(int(r.A))
	case 9:
		a.Key, a.Code = s.Key(x)
	case 10:
		a.Heap, a.Code = s.Home(x)
	default:
		a.Code = 181
	}
	return a
}

// plainText is Text, operation by operation.
func plainText(op int, r api.Reply) string {
	handle := "handle " + strconv.Itoa(r.Handle.Slot) + "." + strconv.FormatUint(uint64(r.Handle.Gen), 10)
	key := "key " + strconv.FormatInt(r.Key, 10)
	if r.Code != 0 {
		return "error " + strconv.Itoa(int(r.Code))
	}
	texts := map[int]string{
		1: "heap " + strconv.Itoa(r.Heap), 2: handle, 3: handle + " " + key, 4: handle + " " + key,
		5: "ok", 6: key, 7: "ok", 8: "len " + strconv.Itoa(r.N), 9: key, 10: "heap " + strconv.Itoa(r.Heap),
	}
	return texts[op]
}

// plainLines are the lines of a text, byte by byte.
func plainLines(text string) []string {
	var l []string
	line := ""
	for i := range len(text) {
		if text[i] == 10 {
			l, line = append(l, line), ""
			continue
		}
		line += text[i : i+1]
	}
	if line != "" {
		l = append(l, line)
	}
	return l
}

// plainScript is Script upon a store that can be, of a text that isn't too long, line by line.
func plainScript(s *pq.Store, text string) string {
	var l []string
	for _, line := range plainLines(text) {
		r, e := record.Parse(line)
		if e != 0 {
			l = append(l, "error 181\n")
			continue
		}
		l = append(l, plainText(r.Op, plainOne(s, r))+"\n")
	}
	return strings.Join(l, "")
}

// roller tells numbers below n that hang on the seed alone.
func roller(seed uint64) func(n int) int {
	mix := seed*2654435761 + 12345
	return func(n int) int {
		mix = mix*6364136223846793005 + 1442695040888963407
		return int(mix>>33) % n
	}
}

// mixed is any record: most of them are of few heaps, slots, generations and keys, so that many of them can be done.
func mixed(roll func(n int) int) api.Record {
	r := api.Record{Op: roll(13) - 1, A: uint32(roll(6)), B: uint32(roll(4)), Key: int64(roll(9)) - 4}
	if r.Op >= 11 {
		r.Op = api.OpInsert
	}
	switch roll(40) {
	case 0:
		r.Op = farOps[roll(len(farOps))]
	case 1:
		r.A = farHalves[roll(len(farHalves))]
	case 2:
		r.B = farHalves[roll(len(farHalves))]
	case 3:
		r.Key = someKeys[roll(len(someKeys))]
	}
	return r
}

// mixedWay is two heaps, and n mixed records behind them.
func mixedWay(seed uint64, n int) []api.Record {
	roll := roller(seed)
	l := []api.Record{{Op: api.OpNew}, {Op: api.OpNew}}
	for range n {
		l = append(l, mixed(roll))
	}
	return l
}

package record

import (
	"testing"

	"haycock/api"
)

const (
	leastInt     = -1 << 63
	greatestInt  = 1<<63 - 1
	greatestHalf = 1<<32 - 1
	// ops is how many operations there are, OpBad among them.
	ops = 11
)

// farOps are of no operation; some of them would be of one in fewer bits.
var farOps = []int{
	leastInt, leastInt + 1, leastInt + 7, -1 << 32, -1<<32 + 2, -65535, -256, -255, -254, -246, -11, -10, -9, -3, -2, -1,
	11, 12, 13, 17, 100, 127, 128, 255, 256, 257, 258, 266, 512, 65536, 65541, 1<<31 - 1, 1 << 31, 1 << 32, 1<<32 + 1, 1<<32 + 10,
	1 << 62, greatestInt - 1, greatestInt,
}

// halves are numbers that A and B can be.
var halves = []uint32{
	0, 1, 2, 9, 10, 11, 127, 128, 255, 256, 257, 65535, 65536, 65537, 1 << 24, 1<<31 - 1, 1 << 31, 1<<31 + 1, greatestHalf - 1, greatestHalf,
}

// keys are numbers that Key can be.
var keys = []int64{
	leastInt, leastInt + 1, -1 << 62, -1<<53 - 1, -1<<32 - 1, -1 << 32, -1 << 31, -65536, -257, -256, -255, -128, -100, -11, -10, -9, -2, -1,
	0, 1, 2, 9, 10, 11, 100, 127, 128, 255, 256, 257, 65536, 1<<31 - 1, 1 << 31, 1<<32 - 1, 1 << 32, 1<<53 + 1, 1 << 62, greatestInt - 1, greatestInt,
}

// hasA, hasB and hasKey tell, as the chapter does, what an operation has.
func hasA(op int) bool {
	return op >= api.OpInsert && op <= api.OpHome
}

func hasB(op int) bool {
	return op == api.OpDecrease || op == api.OpDelete || op == api.OpMeld || op == api.OpKey || op == api.OpHome
}

func hasKey(op int) bool {
	return op == api.OpInsert || op == api.OpDecrease
}

// plainClean is Clean, number by number.
func plainClean(r api.Record) api.Record {
	var c api.Record
	if r.Op < 0 || r.Op > 10 {
		return c
	}
	c.Op = r.Op
	if hasA(r.Op) {
		c.A = r.A
	}
	if hasB(r.Op) {
		c.B = r.B
	}
	if hasKey(r.Op) {
		c.Key = r.Key
	}
	return c
}

// allRecords shows all records of an operation's number with some numbers.
func allRecords(op int, show func(r api.Record)) {
	for _, a := range halves {
		for _, b := range halves {
			for _, key := range keys {
				show(api.Record{Op: op, A: a, B: b, Key: key})
			}
		}
	}
}

// rightRecords are all that can be, of the numbers above.
func rightRecords() []api.Record {
	var l []api.Record
	seen := map[api.Record]bool{}
	for op := range ops {
		allRecords(op, func(r api.Record) {
			if r = plainClean(r); !seen[r] {
				seen[r] = true
				l = append(l, r)
			}
		})
	}
	return l
}

// TestCleanOfEach has one record of each operation, with all that a record has.
func TestCleanOfEach(t *testing.T) {
	for op, want := range []api.Record{
		{},
		{Op: 1},
		{Op: 2, A: 7, Key: -9},
		{Op: 3, A: 7},
		{Op: 4, A: 7},
		{Op: 5, A: 7, B: 8, Key: -9},
		{Op: 6, A: 7, B: 8},
		{Op: 7, A: 7, B: 8},
		{Op: 8, A: 7},
		{Op: 9, A: 7, B: 8},
		{Op: 10, A: 7, B: 8},
		{},
	} {
		r := api.Record{Op: op, A: 7, B: 8, Key: -9}
		if got := Clean(r); got != want {
			t.Errorf("Clean(%v) = %v, not %v", r, got, want)
		}
		if got := Right(r); got != (op == api.OpDecrease) {
			t.Errorf("Right(%v) = %v", r, got)
		}
		if !Right(want) {
			t.Errorf("%v isn't Right", want)
		}
	}
}

func TestRightAndClean(t *testing.T) {
	for op := range ops {
		allRecords(op, func(r api.Record) {
			want := plainClean(r)
			if got := Clean(r); got != want {
				t.Errorf("Clean(%v) = %v, not %v", r, got, want)
			}
			wrong := r.A != 0 && !hasA(op) || r.B != 0 && !hasB(op) || r.Key != 0 && !hasKey(op)
			if got := Right(r); got != !wrong {
				t.Errorf("Right(%v) = %v", r, got)
			}
		})
	}
}

// TestOneNumberTooMany has records that are wrong by one number alone, which is any bit of it.
func TestOneNumberTooMany(t *testing.T) {
	for op := range ops {
		right := plainClean(api.Record{Op: op, A: 3, B: 5, Key: -7})
		for bit := range 64 {
			l := []api.Record{right, right, right}
			if bit < 32 && !hasA(op) {
				l[0].A = 1 << bit
			}
			if bit < 32 && !hasB(op) {
				l[1].B = 1 << bit
			}
			if !hasKey(op) {
				l[2].Key = 1 << bit
			}
			for _, r := range l {
				if Clean(r) != right || Right(r) != (r == right) || Right(r) != (Text(r) != "") {
					t.Errorf("%v: Clean %v, Right %v, Text %q", r, Clean(r), Right(r), Text(r))
				}
			}
		}
	}
}

func TestNoOperation(t *testing.T) {
	for _, op := range farOps {
		for _, r := range []api.Record{{Op: op}, {Op: op, A: 1}, {Op: op, B: 1}, {Op: op, Key: 1}, {Op: op, A: greatestHalf, B: greatestHalf, Key: -1}} {
			if got := Clean(r); got != (api.Record{}) {
				t.Errorf("Clean(%v) = %v", r, got)
			}
			if Right(r) {
				t.Errorf("%v is Right", r)
			}
			if got := Text(r); got != "" {
				t.Errorf("Text(%v) = %q", r, got)
			}
		}
	}
}

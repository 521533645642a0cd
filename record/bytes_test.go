package record

import (
	"bytes"
	"slices"
	"testing"

	"haycock/api"
)

// width is how many bytes the chapter gives a record.
const width = 17

// TestBytesOfEach has records with unlike bytes at all places, and what stands for them.
func TestBytesOfEach(t *testing.T) {
	const a, b, key = 0x01020304, 0x85868788, 0x1112131415161718
	for op, want := range [][]byte{
		{0, 0, 0, 0, 0, 0, 0, 0, 0, 0, 0, 0, 0, 0, 0, 0, 0},
		{1, 0, 0, 0, 0, 0, 0, 0, 0, 0, 0, 0, 0, 0, 0, 0, 0},
		{2, 1, 2, 3, 4, 0, 0, 0, 0, 0x11, 0x12, 0x13, 0x14, 0x15, 0x16, 0x17, 0x18},
		{3, 1, 2, 3, 4, 0, 0, 0, 0, 0, 0, 0, 0, 0, 0, 0, 0},
		{4, 1, 2, 3, 4, 0, 0, 0, 0, 0, 0, 0, 0, 0, 0, 0, 0},
		{5, 1, 2, 3, 4, 0x85, 0x86, 0x87, 0x88, 0x11, 0x12, 0x13, 0x14, 0x15, 0x16, 0x17, 0x18},
		{6, 1, 2, 3, 4, 0x85, 0x86, 0x87, 0x88, 0, 0, 0, 0, 0, 0, 0, 0},
		{7, 1, 2, 3, 4, 0x85, 0x86, 0x87, 0x88, 0, 0, 0, 0, 0, 0, 0, 0},
		{8, 1, 2, 3, 4, 0, 0, 0, 0, 0, 0, 0, 0, 0, 0, 0, 0},
		{9, 1, 2, 3, 4, 0x85, 0x86, 0x87, 0x88, 0, 0, 0, 0, 0, 0, 0, 0},
		{10, 1, 2, 3, 4, 0x85, 0x86, 0x87, 0x88, 0, 0, 0, 0, 0, 0, 0, 0},
		{0, 0, 0, 0, 0, 0, 0, 0, 0, 0, 0, 0, 0, 0, 0, 0, 0},
	} {
		r := api.Record{Op: op, A: a, B: b, Key: key}
		if got := Encode(r); !bytes.Equal(got, want) {
			t.Errorf("Encode(%v) = %v, not %v", r, got, want)
		}
		full := slices.Concat([]byte{byte(op)}, []byte{1, 2, 3, 4, 0x85, 0x86, 0x87, 0x88, 0x11, 0x12, 0x13, 0x14, 0x15, 0x16, 0x17, 0x18})
		for _, in := range [][]byte{want, full} {
			if got := Decode(in); !slices.Equal(got, []api.Record{plainClean(r)}) {
				t.Errorf("Decode(%v) = %v", in, got)
			}
		}
	}
}

// TestEachBit has records of which one bit alone is set, at each place.
func TestEachBit(t *testing.T) {
	for bit := range 128 {
		r := api.Record{Op: api.OpDecrease}
		switch {
		case bit < 64:
			r.Key = 1 << bit
		case bit < 96:
			r.B = 1 << (bit - 64)
		default:
			r.A = 1 << (bit - 96)
		}
		want := make([]byte, width)
		want[0] = api.OpDecrease
		want[width-1-bit/8] = 1 << (bit % 8)
		if got := Encode(r); !bytes.Equal(got, want) {
			t.Errorf("Encode(%v) = %v, not %v", r, got, want)
		}
		if got := Decode(want); !slices.Equal(got, []api.Record{r}) {
			t.Errorf("Decode(%v) = %v, not %v", want, got, r)
		}
	}
}

func TestKeysBelowNought(t *testing.T) {
	for key, want := range map[int64][]byte{
		-1:           {255, 255, 255, 255, 255, 255, 255, 255},
		-2:           {255, 255, 255, 255, 255, 255, 255, 254},
		-256:         {255, 255, 255, 255, 255, 255, 255, 0},
		leastInt:     {128, 0, 0, 0, 0, 0, 0, 0},
		leastInt + 1: {128, 0, 0, 0, 0, 0, 0, 1},
		greatestInt:  {127, 255, 255, 255, 255, 255, 255, 255},
	} {
		r := api.Record{Op: api.OpInsert, A: 1, Key: key}
		b := Encode(r)
		if !bytes.Equal(b[9:], want) {
			t.Errorf("Encode(%v) = %v", r, b)
		}
		if got := Decode(b); !slices.Equal(got, []api.Record{r}) {
			t.Errorf("Decode(%v) = %v, not %v", b, got, r)
		}
	}
}

// TestThereAndBack has all records, right and wrong ones, in one list.
func TestThereAndBack(t *testing.T) {
	var l, want []api.Record
	for _, op := range append(slices.Clone(farOps), 0, 1, 2, 3, 4, 5, 6, 7, 8, 9, 10) {
		for i, a := range halves {
			for k, key := range keys {
				r := api.Record{Op: op, A: a, B: halves[(i*7+k)%len(halves)], Key: key}
				l, want = append(l, r), append(want, plainClean(r))
			}
		}
	}
	kept := slices.Clone(l)
	b := Encode(l...)
	if !slices.Equal(l, kept) {
		t.Fatal("Encode changes what is handed in")
	}
	if len(b) != width*len(l) {
		t.Fatalf("%d records, %d bytes", len(l), len(b))
	}
	for i, r := range l {
		if !bytes.Equal(b[width*i:width*(i+1)], Encode(r)) {
			t.Fatalf("%v, %d records ahead of it, is written in another way", r, i)
		}
	}
	if got := Decode(b); !slices.Equal(got, want) {
		t.Fatal("Decode of Encode isn't Clean")
	}
	if again := Encode(want...); !bytes.Equal(again, b) {
		t.Fatal("Encode of Clean records is another one")
	}
}

func TestNothing(t *testing.T) {
	if got := Encode(); len(got) != 0 {
		t.Errorf("Encode() = %v", got)
	}
	for _, b := range [][]byte{nil, {}, make([]byte, 0, 40)} {
		if got := Decode(b); len(got) != 0 {
			t.Errorf("Decode of nothing = %v", got)
		}
	}
}

// TestFirstBytes has all first bytes, with noughts behind them, and with what no record has.
func TestFirstBytes(t *testing.T) {
	for first := range 256 {
		for _, rest := range []byte{0, 1, 10, 127, 128, 255} {
			b := bytes.Repeat([]byte{rest}, width)
			b[0] = byte(first)
			half := uint32(rest) * 0x01010101
			want := plainClean(api.Record{Op: first, A: half, B: half, Key: int64(uint64(rest) * 0x0101010101010101)})
			if got := Decode(b); !slices.Equal(got, []api.Record{want}) {
				t.Errorf("Decode(%v) = %v, not %v", b, got, want)
			}
		}
	}
}

// TestLeftOver has up to three records, and up to 16 bytes more, which begin as a record does.
func TestLeftOver(t *testing.T) {
	whole := []api.Record{{Op: api.OpMeld, A: 1, B: 2}, {Op: api.OpDecrease, A: 3, B: 4, Key: -5}, {Op: api.OpNew}}
	for n := range len(whole) + 1 {
		for more := range width {
			for _, next := range []api.Record{{}, {Op: api.OpNew}, {Op: api.OpDecrease, A: 1 << 30, B: 1 << 30, Key: -1}} {
				b := append(Encode(whole[:n]...), Encode(next)[:more]...)
				want := slices.Clone(whole[:n])
				if more > 0 {
					want = append(want, api.Record{})
				}
				if got := Decode(b); !slices.Equal(got, want) {
					t.Errorf("Decode(%v) = %v, not %v", b, got, want)
				}
			}
		}
	}
}

// TestBytesAreNew: what is handed in is neither changed nor kept, and no answer shares memory.
func TestBytesAreNew(t *testing.T) {
	l := []api.Record{{Op: api.OpMin, A: 1, B: 2, Key: 3}, {Op: 99, A: 4}, {Op: api.OpDecrease, A: 5, B: 6, Key: 7}, {Op: api.OpLen, A: 8}}
	kept := slices.Clone(l)
	b := Encode(l[:3]...)
	if !slices.Equal(l, kept) {
		t.Error("Encode changes what is handed in")
	}
	other := Encode(l[:3]...)
	over(other[:cap(other)], 0xee)
	over(l, api.Record{Op: api.OpNew})
	if want := Encode(kept[:3]...); !bytes.Equal(b, want) {
		t.Errorf("an answer of Encode changes: %v, not %v", b, want)
	}
	in := slices.Concat(b, []byte{3, 4, 5}, make([]byte, 20))
	keptIn := slices.Clone(in)
	got := Decode(in[:3*width+3])
	if !bytes.Equal(in, keptIn) {
		t.Error("Decode changes what is handed in")
	}
	second := Decode(in[:3*width+3])
	over(second[:cap(second)], api.Record{Op: api.OpHome, A: 1})
	over(in, 0xee)
	if want := []api.Record{{Op: api.OpMin, A: 1}, {}, {Op: api.OpDecrease, A: 5, B: 6, Key: 7}, {}}; !slices.Equal(got, want) {
		t.Errorf("an answer of Decode changes: %v, not %v", got, want)
	}
}

// over writes one thing over all of a list.
func over[T any](l []T, x T) {
	for i := range l {
		l[i] = x
	}
}

func TestManyRecords(t *testing.T) {
	const many = 1 << 20
	l := make([]api.Record, many)
	for i := range l {
		l[i] = plainClean(api.Record{Op: i % ops, A: uint32(i), B: ^uint32(i), Key: int64(i) << 40 * int64(1-i%3)})
	}
	b := append(Encode(l...), 1)
	got := Decode(b)
	if len(b) != width*many+1 || len(got) != many+1 || !slices.Equal(got[:many], l) || got[many] != (api.Record{}) {
		t.Errorf("%d bytes, %d records", len(b), len(got))
	}
}

// plainDecode is Decode, byte by byte.
func plainDecode(b []byte) []api.Record {
	var l []api.Record
	for len(b) >= width {
		r := api.Record{Op: int(b[0])}
		for i := 1; i <= 4; i++ {
			r.A = r.A*256 + uint32(b[i])
			r.B = r.B*256 + uint32(b[i+4])
		}
		for i := 9; i < width; i++ {
			r.Key = r.Key*256 + int64(b[i])
		}
		l, b = append(l, plainClean(r)), b[width:]
	}
	if len(b) > 0 {
		l = append(l, api.Record{})
	}
	return l
}

// TestAnyBytes has lists of all lengths up to some, of bytes that are mixed again and again.
func TestAnyBytes(t *testing.T) {
	x := uint64(1)
	for n := range 400 {
		b := make([]byte, n)
		for i := range b {
			x ^= x << 13
			x ^= x >> 7
			x ^= x << 17
			b[i] = byte(x)
			if i%width == 0 {
				b[i] %= 13
			}
		}
		if got, want := Decode(b), plainDecode(b); !slices.Equal(got, want) {
			t.Fatalf("Decode(%v) = %v, not %v", b, got, want)
		}
	}
}

func FuzzBytes(f *testing.F) {
	f.Add([]byte{})
	f.Add([]byte{1, 2, 3})
	f.Add(bytes.Repeat([]byte{255}, 2*width))
	f.Add(Encode(api.Record{Op: api.OpDecrease, A: 3, B: 1, Key: -7}, api.Record{Op: api.OpMeld, A: 1, B: 2}))
	f.Fuzz(func(t *testing.T, b []byte) {
		l := Decode(b)
		if want := plainDecode(b); !slices.Equal(l, want) {
			t.Errorf("Decode(%v) = %v, not %v", b, l, want)
		}
		if again := Decode(Encode(l...)); !slices.Equal(again, l) {
			t.Errorf("%v, written and read: %v", l, again)
		}
		for _, r := range l {
			if back, e := Parse(Text(r)); back != r || e != api.OK || !Right(r) {
				t.Errorf("%v: %q is read as %v, %d", r, Text(r), back, e)
			}
		}
	})
}

package record

import (
	"slices"

	"haycock/api"
)

// Where the numbers of a record begin in its bytes, and how many these are.
const (
	startA   = 1
	startB   = startA + 4
	startKey = startB + 4
	size     = startKey + 8
)

// Encode: records as bytes.
func Encode(l ...api.Record) []byte {
	b := make([]byte, size*len(l))
	for i, r := range l {
		put(b[size*i:size*(i+1)], Clean(r))
	}
	return b
}

// put writes a record over as many bytes as it has.
func put(b []byte, r api.Record) {
	b[0] = byte(r.Op)
	putNumber(b[startA:startB], uint64(r.A))
	putNumber(b[startB:startKey], uint64(r.B))
	putNumber(b[startKey:], uint64(r.Key))
}

// putNumber writes a number over bytes, the highest one first.
func putNumber(b []byte, n uint64) {
	for i := range b {
		b[len(b)-1-i] = byte(n)
		n >>= 8
	}
}

// Decode: bytes as records.
func Decode(b []byte) []api.Record {
	l := make([]api.Record, 0, len(b)/size+1)
	for piece := range slices.Chunk(b, size) {
		l = append(l, get(piece))
	}
	return l
}

// get reads a record; the last bytes of a list may be too few for one.
func get(b []byte) api.Record {
	if len(b) < size {
		return api.Record{}
	}
	return Clean(api.Record{
		Op:  int(b[0]),
		A:   uint32(number(b[startA:startB])),
		B:   uint32(number(b[startB:startKey])),
		Key: int64(number(b[startKey:])),
	})
}

// number is that of bytes, the highest one first.
func number(b []byte) uint64 {
	n := uint64(0)
	for _, x := range b {
		n = n<<8 | uint64(x)
	}
	return n
}

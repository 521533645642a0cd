package record

import (
	"strings"

	"haycock/api"
	"haycock/entry"
)

// Text: a record as a line.
func Text(r api.Record) string {
	if !Right(r) {
		return ""
	}
	s := shapes[r.Op]
	text := s.word
	if s.a {
		text += blank + entry.Digits(int64(r.A))
	}
	if s.mark != "" {
		text += s.mark + entry.Digits(int64(r.B))
	}
	if s.key {
		text += blank + entry.Digits(r.Key)
	}
	return text
}

// Parse: a line as a record.
func Parse(s string) (api.Record, api.Errno) {
	word, rest, _ := strings.Cut(s, blank)
	op, ok := find(word)
	if !ok {
		return api.Record{}, api.ErrBadOp
	}
	r := read(op, rest)
	// What is no number, or too great a one, was read as some number all the same, and what
	// no record of its kind has was passed over: such a line isn't the text of what was read.
	if Text(r) != s {
		return api.Record{}, api.ErrBadOp
	}
	return r, api.OK
}

// find is the operation with a word.
func find(word string) (int, bool) {
	for op, s := range shapes {
		if s.word == word {
			return op, true
		}
	}
	return 0, false
}

// read is an operation's record, of what stands behind its word: the one whose text that
// is, if there is one, else any one.
func read(op int, rest string) api.Record {
	s, r := shapes[op], api.Record{Op: op}
	if s.key {
		var key string
		rest, key, _ = strings.Cut(rest, blank)
		r.Key, _ = entry.Number(key)
	}
	if s.mark != "" {
		var b string
		rest, b, _ = strings.Cut(rest, s.mark)
		r.B = lower(b)
	}
	if s.a {
		r.A = lower(rest)
	}
	return r
}

// lower is the lower half of a text's number.
func lower(s string) uint32 {
	n, _ := entry.Number(s)
	return uint32(n)
}

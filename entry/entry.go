// Package entry is layer 1: entries, which of them goes first, and numbers as
// texts. See shared/doc/01-entry.md.
package entry

import (
	"strconv"
	"strings"

	"haycock/api"
)

// mark stands between the Key and the Seq of an entry's text.
const mark = "#"

// Less: does one go ahead of the other one?
func Less(a, b api.Entry) bool {
	if a.Key != b.Key {
		return a.Key < b.Key
	}
	return a.Seq < b.Seq
}

// Compare: which goes ahead.
func Compare(a, b api.Entry) int {
	if Less(a, b) {
		return -1
	}
	if Less(b, a) {
		return 1
	}
	return 0
}

// Turn: a key for the opposite order.
func Turn(key int64) int64 {
	// The negative of the least key doesn't fit; -1 less any key does.
	return -1 - key
}

// Digits: a number's text.
func Digits(n int64) string {
	return strconv.FormatInt(n, 10)
}

// Number: a text's number.
func Number(s string) (int64, bool) {
	n, err := strconv.ParseInt(s, 10, 64)
	// The library reads `+1`, `-0` and noughts ahead, too: no number is written so.
	if err != nil || Digits(n) != s {
		return 0, false
	}
	return n, true
}

// Text: an entry's text.
func Text(e api.Entry) string {
	return Digits(e.Key) + mark + seqDigits(e.Seq)
}

// Parse: a text's entry.
func Parse(s string) (api.Entry, api.Errno) {
	// Without a mark the seq is an empty text, which is no number.
	key, seq, _ := strings.Cut(s, mark)
	k, okKey := Number(key)
	q, okSeq := seqNumber(seq)
	if !okKey || !okSeq {
		return api.Entry{}, api.ErrEntry
	}
	return api.Entry{Key: k, Seq: q}, api.OK
}

// seqDigits is Digits of a number of 64 bits without a sign.
func seqDigits(n uint64) string {
	return strconv.FormatUint(n, 10)
}

// seqNumber is Number of a number of 64 bits without a sign.
func seqNumber(s string) (uint64, bool) {
	n, err := strconv.ParseUint(s, 10, 64)
	if err != nil || seqDigits(n) != s {
		return 0, false
	}
	return n, true
}

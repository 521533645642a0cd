package entry

import (
	"slices"
	"strings"
	"testing"

	"haycock/api"
)

const (
	leastKey    = -1 << 63
	greatestKey = 1<<63 - 1
	greatestSeq = 1<<64 - 1
)

// someKeys rise; among them are the edges, and such as differ in their upper half alone.
var someKeys = []int64{
	leastKey, leastKey + 1, -1 << 32, -1<<31 - 1, -1 << 31, -100, -11, -10, -9, -2, -1,
	0, 1, 2, 9, 10, 11, 100, 1<<31 - 1, 1 << 31, 1 << 32, 1<<53 + 1, 1 << 62, greatestKey - 1, greatestKey,
}

// someSeqs rise; some of them would be below 0 with a sign.
var someSeqs = []uint64{
	0, 1, 2, 9, 10, 11, 1<<31 - 1, 1 << 31, 1<<32 - 1, 1 << 32, 1<<53 + 1,
	1<<63 - 1, 1 << 63, 1<<63 + 1, greatestSeq - 1, greatestSeq,
}

// noNatural are texts that no number from 0 on is written as.
var noNatural = []string{
	"", "-", "+", "#", "-0", "+0", "+1", "00", "01", "007", "-01", "--1", "-+1", "1-", "1+",
	" ", " 1", "1 ", "1 2", "\t1", "1\n", "\n", "1\x00", "\x00", "1_0", "_1", "1_", "1,000", "1.", "1.0", ".5",
	"0x1", "0X1", "0b1", "0o7", "0x", "x", "a", "1a", "a1", "1e3", "1E3", "1e", "nil", "NaN", "Inf", "inf", "-Inf",
	"\xff", "1\xff", "\u0661", "\uff11", "\u22121", "1\u00a0", "#1", "1#",
	"18446744073709551616", "18446744073709551617", "18446744073709551626", "99999999999999999999",
	"184467440737095516150", "340282366920938463463374607431768211456", "100000000000000000000000000000000000000000",
}

// allEntries are in order: by keys, of like ones by seqs.
func allEntries() []api.Entry {
	var l []api.Entry
	for _, k := range someKeys {
		for _, s := range someSeqs {
			l = append(l, api.Entry{Key: k, Seq: s})
		}
	}
	return l
}

func TestLessAndCompare(t *testing.T) {
	l := allEntries()
	for i, a := range l {
		for k, b := range l {
			want := 0
			if i < k {
				want = -1
			} else if i > k {
				want = 1
			}
			if got := Less(a, b); got != (want < 0) {
				t.Errorf("Less(%v, %v) = %v", a, b, got)
			}
			if got := Compare(a, b); got != want {
				t.Errorf("Compare(%v, %v) = %v, not %v", a, b, got, want)
			}
		}
	}
}

func TestLessByKeyAheadOfSeq(t *testing.T) {
	if !Less(api.Entry{Key: -5, Seq: greatestSeq}, api.Entry{Key: -4}) {
		t.Error("a lesser key doesn't go ahead of a lesser seq")
	}
	if Less(api.Entry{Key: -4}, api.Entry{Key: -5, Seq: greatestSeq}) {
		t.Error("a lesser seq goes ahead of a lesser key")
	}
	if !Less(api.Entry{Key: -5, Seq: 7}, api.Entry{Key: -5, Seq: 8}) {
		t.Error("of like keys the lesser seq doesn't go ahead")
	}
	if Less(api.Entry{Key: 3, Seq: 3}, api.Entry{Key: 3, Seq: 3}) {
		t.Error("an entry goes ahead of itself")
	}
}

func TestTurn(t *testing.T) {
	for key, want := range map[int64]int64{
		0: -1, -1: 0, 1: -2, -2: 1, 5: -6, -6: 5, 1 << 32: -1<<32 - 1,
		greatestKey: leastKey, leastKey: greatestKey, greatestKey - 1: leastKey + 1,
	} {
		if got := Turn(key); got != want {
			t.Errorf("Turn(%d) = %d, not %d", key, got, want)
		}
	}
	for i, a := range someKeys {
		if got := Turn(Turn(a)); got != a {
			t.Errorf("Turn twice of %d = %d", a, got)
		}
		for _, b := range someKeys[i+1:] {
			if Turn(a) <= Turn(b) {
				t.Errorf("Turn keeps %d below %d", a, b)
			}
		}
	}
}

// keyTexts are numbers and how they are written.
func keyTexts() map[string]int64 {
	return map[string]int64{
		"0": 0, "1": 1, "7": 7, "9": 9, "10": 10, "99": 99, "100": 100, "1000000": 1000000, "1234567890": 1234567890,
		"-1": -1, "-5": -5, "-9": -9, "-10": -10, "-100": -100, "-1234567890": -1234567890,
		"2147483647": 1<<31 - 1, "2147483648": 1 << 31, "-2147483648": -1 << 31, "-2147483649": -1<<31 - 1,
		"4294967296": 1 << 32, "9007199254740993": 1<<53 + 1, "-9007199254740993": -1<<53 - 1,
		"9223372036854775806": greatestKey - 1, "9223372036854775807": greatestKey,
		"-9223372036854775807": leastKey + 1, "-9223372036854775808": leastKey,
	}
}

func TestDigitsAndNumber(t *testing.T) {
	for s, want := range keyTexts() {
		if got := Digits(want); got != s {
			t.Errorf("Digits(%d) = %q", want, got)
		}
		if got, ok := Number(s); got != want || !ok {
			t.Errorf("Number(%q) = %d, %v", s, got, ok)
		}
	}
	for n := int64(-2000); n <= 2000; n++ {
		if got, ok := Number(Digits(n)); got != n || !ok {
			t.Errorf("Number(Digits(%d)) = %d, %v", n, got, ok)
		}
	}
	for _, n := range someKeys {
		if got, ok := Number(Digits(n)); got != n || !ok {
			t.Errorf("Number(Digits(%d)) = %d, %v", n, got, ok)
		}
	}
}

// noNumber are texts that no number of 64 bits with a sign is written as.
func noNumber() []string {
	return append(slices.Clone(noNatural),
		"-00", "-007", "- 1", " -1", "-1 ", "-1-", "-0x1", "-1_0", "-a", "-\xff",
		"9223372036854775808", "9223372036854775809", "9223372036854775810", "09223372036854775807",
		"-9223372036854775809", "-9223372036854775810", "-09223372036854775808",
		"10000000000000000000", "18446744073709551615", "-18446744073709551615", "-18446744073709551616",
		"92233720368547758070", "-92233720368547758080",
		strings.Repeat("0", 1000), strings.Repeat("1", 1000), strings.Repeat("-", 1000), "0"+strings.Repeat(" ", 1000))
}

func TestNumberOfNone(t *testing.T) {
	for _, s := range noNumber() {
		if n, ok := Number(s); ok || n != 0 {
			t.Errorf("Number(%q) = %d, %v", s, n, ok)
		}
	}
}

func TestShortTexts(t *testing.T) {
	marks := "-+0129# x"
	var visit func(s string)
	visit = func(s string) {
		if n, ok := Number(s); ok != plainNumber(s) || ok && Digits(n) != s || !ok && n != 0 {
			t.Errorf("Number(%q) = %d, %v", s, n, ok)
		}
		e, f := Parse(s)
		if (f == api.OK) != plainEntry(s) || f == api.OK && Text(e) != s {
			t.Errorf("Parse(%q) = %v, %d", s, e, f)
		}
		if f != api.OK && (f != api.ErrEntry || e != (api.Entry{})) {
			t.Errorf("Parse(%q) = %v, %d", s, e, f)
		}
		if len(s) == 5 {
			return
		}
		for i := range len(marks) {
			visit(s + marks[i:i+1])
		}
	}
	visit("")
}

// plainNatural asks, letter by letter, whether a short text is a number from 0 on.
func plainNatural(s string) bool {
	if s == "" || s[0] == '0' && len(s) > 1 {
		return false
	}
	return strings.Trim(s, "0123456789") == ""
}

// plainNumber asks likewise for any number.
func plainNumber(s string) bool {
	if rest, minus := strings.CutPrefix(s, "-"); minus {
		return rest != "0" && plainNatural(rest)
	}
	return plainNatural(s)
}

// plainEntry asks likewise for an entry.
func plainEntry(s string) bool {
	pieces := strings.Split(s, "#")
	return len(pieces) == 2 && plainNumber(pieces[0]) && plainNatural(pieces[1])
}

// seqTexts are seqs and how they are written.
func seqTexts() map[string]uint64 {
	return map[string]uint64{
		"0": 0, "1": 1, "7": 7, "10": 10, "100": 100, "1234567890": 1234567890, "4294967295": 1<<32 - 1, "4294967296": 1 << 32,
		"9007199254740993": 1<<53 + 1, "9223372036854775807": 1<<63 - 1, "9223372036854775808": 1 << 63,
		"10000000000000000000": 10000000000000000000, "18446744073709551614": greatestSeq - 1, "18446744073709551615": greatestSeq,
	}
}

func TestTextAndParse(t *testing.T) {
	for key, k := range keyTexts() {
		for seq, q := range seqTexts() {
			s, e := key+"#"+seq, api.Entry{Key: k, Seq: q}
			if got := Text(e); got != s {
				t.Errorf("Text(%v) = %q, not %q", e, got, s)
			}
			if got, f := Parse(s); got != e || f != api.OK {
				t.Errorf("Parse(%q) = %v, %d", s, got, f)
			}
		}
	}
	for _, e := range allEntries() {
		if got, f := Parse(Text(e)); got != e || f != api.OK {
			t.Errorf("Parse(%q) = %v, %d", Text(e), got, f)
		}
	}
}

func TestParseOfNone(t *testing.T) {
	l := []string{
		"", "#", "##", "1", "-5", "1#", "#1", "-#1", "1##1", "1#1#1", "1#1#", "#1#1", "1 #1", "1# 1", " 1#1", "1#1 ", "1#1\n",
		"1:1", "1.1", "1/1", "1-1", "1 1", "\uff03", "1\uff031", "(1#1)", "1#1\x001", "\x001#1",
		"1#-0", "1#-1", "1#+1", "1#18446744073709551616", "9223372036854775808#1", "-9223372036854775809#1", "18446744073709551615#1",
		strings.Repeat("#", 1000), strings.Repeat("1", 1000) + "#1", "1#" + strings.Repeat("1", 1000),
	}
	for _, s := range noNumber() {
		l = append(l, s+"#1")
	}
	for _, s := range noNatural {
		l = append(l, "1#"+s)
	}
	for _, s := range l {
		if e, f := Parse(s); f != api.ErrEntry || e != (api.Entry{}) {
			t.Errorf("Parse(%q) = %v, %d", s, e, f)
		}
	}
}

func TestExamples(t *testing.T) {
	e := api.Entry{Key: -5, Seq: 7}
	if got := Text(e); got != "-5#7" {
		t.Errorf("Text(%v) = %q", e, got)
	}
	for _, s := range []string{"-5#8", "-4#0"} {
		b, f := Parse(s)
		if f != api.OK || !Less(e, b) || Less(b, e) || Compare(e, b) != -1 || Compare(b, e) != 1 {
			t.Errorf("%v isn't Less than %q alone", e, s)
		}
	}
}

// TestAnswersStay asks twice, with other calls between: nothing is kept (P2).
func TestAnswersStay(t *testing.T) {
	ask := func() []string {
		var l []string
		for key := range keyTexts() {
			for _, s := range []string{key, key + "#7", key + "#-7", "+" + key} {
				n, ok := Number(s)
				e, f := Parse(s)
				l = append(l, s+" "+Digits(n)+" "+Digits(Turn(n))+" "+Text(e)+" "+Digits(int64(f)))
				if !ok && n != 0 {
					t.Errorf("Number(%q) = %d, %v", s, n, ok)
				}
			}
		}
		slices.Sort(l)
		return l
	}
	if a, b := ask(), ask(); !slices.Equal(a, b) {
		t.Error("the second answers are others than the first ones")
	}
}

func FuzzTexts(f *testing.F) {
	for _, s := range append(noNumber(), "0", "-5#7", "1#0", "9223372036854775807#18446744073709551615") {
		f.Add(s)
	}
	f.Fuzz(func(t *testing.T, s string) {
		if n, ok := Number(s); ok && Digits(n) != s || !ok && n != 0 {
			t.Errorf("Number(%q) = %d, %v", s, n, ok)
		}
		e, code := Parse(s)
		if code == api.OK && Text(e) != s || code != api.OK && (code != api.ErrEntry || e != (api.Entry{})) {
			t.Errorf("Parse(%q) = %v, %d", s, e, code)
		}
	})
}

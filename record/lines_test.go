package record

import (
	"slices"
	"strconv"
	"strings"
	"testing"

	"haycock/api"
)

// lineTexts are lines and what they stand for.
func lineTexts() map[string]api.Record {
	return map[string]api.Record{
		"bad":                                   {},
		"new":                                   {Op: api.OpNew},
		"insert 1 5":                            {Op: api.OpInsert, A: 1, Key: 5},
		"insert 0 0":                            {Op: api.OpInsert},
		"insert 0 -1":                           {Op: api.OpInsert, Key: -1},
		"insert 4294967295 9223372036854775807": {Op: api.OpInsert, A: greatestHalf, Key: greatestInt},
		"insert 10 -9223372036854775808":        {Op: api.OpInsert, A: 10, Key: leastInt},
		"min 0":                                 {Op: api.OpMin},
		"min 7":                                 {Op: api.OpMin, A: 7},
		"min 4294967295":                        {Op: api.OpMin, A: greatestHalf},
		"extract 0":                             {Op: api.OpExtract},
		"extract 2147483648":                    {Op: api.OpExtract, A: 1 << 31},
		"decrease 3.1 -7":                       {Op: api.OpDecrease, A: 3, B: 1, Key: -7},
		"decrease 0.0 0":                        {Op: api.OpDecrease},
		"decrease 4294967295.4294967295 -1":     {Op: api.OpDecrease, A: greatestHalf, B: greatestHalf, Key: -1},
		"delete 0.0":                            {Op: api.OpDelete},
		"delete 12.34":                          {Op: api.OpDelete, A: 12, B: 34},
		"meld 0 0":                              {Op: api.OpMeld},
		"meld 1 2":                              {Op: api.OpMeld, A: 1, B: 2},
		"meld 2 1":                              {Op: api.OpMeld, A: 2, B: 1},
		"meld 4294967295 4294967294":            {Op: api.OpMeld, A: greatestHalf, B: greatestHalf - 1},
		"len 0":                                 {Op: api.OpLen},
		"len 100":                               {Op: api.OpLen, A: 100},
		"key 0.0":                               {Op: api.OpKey},
		"key 5.4294967295":                      {Op: api.OpKey, A: 5, B: greatestHalf},
		"home 0.0":                              {Op: api.OpHome},
		"home 65535.1":                          {Op: api.OpHome, A: 65535, B: 1},
	}
}

func TestTextAndParse(t *testing.T) {
	for s, r := range lineTexts() {
		if got := Text(r); got != s {
			t.Errorf("Text(%v) = %q, not %q", r, got, s)
		}
		if got, e := Parse(s); got != r || e != api.OK {
			t.Errorf("Parse(%q) = %v, %d, not %v", s, got, e, r)
		}
	}
}

// plainText is Text, piece by piece.
func plainText(r api.Record) string {
	if r != plainClean(r) {
		return ""
	}
	a, b, key := strconv.Itoa(int(r.A)), strconv.Itoa(int(r.B)), strconv.FormatInt(r.Key, 10)
	switch r.Op {
	case 0:
		return "bad"
	case 1:
		return "new"
	case 2:
		return "insert " + a + " " + key
	case 3:
		return "min " + a
	case 4:
		return "extract " + a
	case 5:
		return "decrease " + a + "." + b + " " + key
	case 6:
		return "delete " + a + "." + b
	case 7:
		return "meld " + a + " " + b
	case 8:
		return "len " + a
	case 9:
		return "key " + a + "." + b
	}
	return "home " + a + "." + b
}

func TestTextOfAll(t *testing.T) {
	for op := -2; op <= ops+1; op++ {
		allRecords(op, func(r api.Record) {
			if got, want := Text(r), plainText(r); got != want {
				t.Errorf("Text(%v) = %q, not %q", r, got, want)
			}
		})
	}
}

func TestParseOfAll(t *testing.T) {
	for _, r := range rightRecords() {
		s := plainText(r)
		if got, e := Parse(s); got != r || e != api.OK {
			t.Errorf("Parse(%q) = %v, %d, not %v", s, got, e, r)
		}
		if got, ok := plainParse(s); got != r || !ok {
			t.Errorf("plainly, %q is %v, %v", s, got, ok)
		}
	}
}

// plainParse reads a line word by word.
func plainParse(s string) (api.Record, bool) {
	l := strings.Split(s, " ")
	want := map[string]string{
		"bad": "", "new": "", "insert": "hk", "min": "h", "extract": "h", "decrease": "xk", "delete": "x", "meld": "hg", "len": "h", "key": "x", "home": "x",
	}
	order := []string{"bad", "new", "insert", "min", "extract", "decrease", "delete", "meld", "len", "key", "home"}
	form, ok := want[l[0]]
	if !ok || len(form) != len(l)-1 {
		return api.Record{}, false
	}
	r := api.Record{Op: slices.Index(order, l[0])}
	for i, kind := range form {
		word, good := l[i+1], true
		switch kind {
		case 'h':
			r.A, good = plainHalf(word)
		case 'g':
			r.B, good = plainHalf(word)
		case 'k':
			r.Key, good = plainKey(word)
		case 'x':
			r.A, r.B, good = plainHandle(word)
		}
		if !good {
			return api.Record{}, false
		}
	}
	return r, true
}

// plainHalf reads a number of 32 bits, digit by digit.
func plainHalf(s string) (uint32, bool) {
	n := 0
	if s == "" || len(s) > 10 || s[0] == '0' && s != "0" {
		return 0, false
	}
	for i := range len(s) {
		if s[i] < '0' || s[i] > '9' {
			return 0, false
		}
		n = 10*n + int(s[i]-'0')
	}
	return uint32(n), n <= greatestHalf
}

// plainKey reads a number of 64 bits with a sign.
func plainKey(s string) (int64, bool) {
	n, err := strconv.ParseInt(s, 10, 64)
	return n, err == nil && strconv.FormatInt(n, 10) == s
}

// plainHandle reads a slot and a generation.
func plainHandle(s string) (uint32, uint32, bool) {
	l := strings.Split(s, ".")
	if len(l) != 2 {
		return 0, 0, false
	}
	a, okA := plainHalf(l[0])
	b, okB := plainHalf(l[1])
	return a, b, okA && okB
}

// checkLine holds what Parse answers against the plain one.
func checkLine(t *testing.T, s string) {
	t.Helper()
	want, ok := plainParse(s)
	code := api.OK
	if !ok {
		want, code = api.Record{}, api.ErrBadOp
	}
	got, e := Parse(s)
	if got != want || e != code {
		t.Errorf("Parse(%q) = %v, %d, not %v, %d", s, got, e, want, code)
	}
	if ok && Text(got) != s {
		t.Errorf("Text(%v) = %q, not %q", got, Text(got), s)
	}
}

// noHalves are texts that no number of 32 bits is written as.
var noHalves = []string{
	"", "-", "+", "-0", "+0", "+1", "-1", "00", "01", "007", "--1", "1-", "x", "1x", "x1", "0x1", "1e3", "1_0", "1,0", "1#1", ".", "1.", ".1", "1.1", "1..1", "1.1.1",
	"\t1", "1\t", "1\n", "\n", "1\r", "\x00", "1\x00", "\xff", "\u0661", "\uff11", "1\u00a0", "nil",
	"4294967296", "4294967297", "8589934592", "18446744073709551615", "18446744073709551616", "18446744073709551617", "9223372036854775807", "9223372036854775808",
	"-4294967295", "-4294967296", "-9223372036854775808", "04294967295", "42949672950", "340282366920938463463374607431768211456",
}

// noKeys are texts that no number of 64 bits with a sign is written as.
var noKeys = []string{
	"", "-", "+", "-0", "+0", "+1", "00", "01", "-01", "--1", "-+1", "1-", "x", "1x", "0x1", "1e3", "1_0", "1.", ".1", "1.0", "1.1", "\t1", "1\n", "\n", "\xff", "1\x00", "\u22121",
	"9223372036854775808", "-9223372036854775809", "18446744073709551615", "18446744073709551616", "-18446744073709551615", "09223372036854775807",
}

// wrongLines are no record's texts.
func wrongLines() []string {
	l := []string{
		"", " ", "  ", "\n", "\t", ".", "0", "1", "-1", "1 2", "0.1", "pop", "pop 1", "peek 1", "Bad", "NEW", "New", "Insert 1 5", "ne", "news", "b", "bad0",
		"bad ", " bad", "bad 0", "bad 1", "bad bad", "bad\n", "bad.", "new ", " new", "new 0", "new 1", "new new", "new\n", "new\x00", "new\tnew", "new1",
		"insert", "insert ", "insert  ", "insert 1", "insert 1 ", "insert 1 2 ", "insert 1 2 3", "insert  1 2", "insert 1  2", " insert 1 2", "insert\t1\t2", "insert 1\t2", "insert 1.2", "insert 1.2 3", "insert1 2", "insert 1 2\n",
		"min1", "min 1 ", "min 1 2", "min 1.2", "min  1", "extract", "extract 1 2", "extract 1.2", "len", "len 1 2", "len 1.2",
		"decrease", "decrease 1", "decrease 1 2", "decrease 1 2 3", "decrease 1.2", "decrease 1.2 ", "decrease 1.2 3 4", "decrease 1.2  3", "decrease 1.2.3", "decrease 1.2 3 ", "decrease 1.2.3 4", "decrease 1. 2", "decrease 1 .2 3", "decrease 1. 2 3", "decrease 3.1 -7.0",
		"delete", "delete 1", "delete 1 2", "delete 1.2 3", "delete 1.2.3", "delete 1.2 ", "delete  1.2", "delete 1. 2", "delete 1 .2", "delete 1,2", "delete 1:2", "delete .", "delete 1..2",
		"meld", "meld ", "meld  ", "meld 1", "meld 1 ", "meld 1.2", "meld 1 2 3", "meld 1 2 ", "meld 1  2", "meld  1 2", "meld 1 2.0", "meld  2",
		"key", "key 1", "key 1 2", "key 1.2 3", "key 1.2.3", "home", "home 1", "home 1 2", "home 1.2 3", "home 1.2.3",
		"new\nnew", "min 1\nmin 2", "minimum 1", "mi 1", "extractmin 1", "decreasekey 1.2 3", "delete1.2",
	}
	for _, x := range noHalves {
		for _, word := range []string{"min ", "extract ", "len "} {
			l = append(l, word+x)
		}
		for _, word := range []string{"delete ", "key ", "home "} {
			l = append(l, word+x+".1", word+"1."+x)
		}
		l = append(l, "meld "+x+" 1", "meld 1 "+x, "insert "+x+" 1", "decrease "+x+".1 1", "decrease 1."+x+" 1")
	}
	for _, x := range noKeys {
		l = append(l, "insert 1 "+x, "decrease 1.1 "+x)
	}
	return l
}

func TestParseOfNone(t *testing.T) {
	for _, s := range wrongLines() {
		if r, e := Parse(s); r != (api.Record{}) || e != api.ErrBadOp {
			t.Errorf("Parse(%q) = %v, %d", s, r, e)
		}
		if _, ok := plainParse(s); ok {
			t.Errorf("plainly, %q is a line", s)
		}
	}
}

// TestShortLines has all words, with all pieces of some letters behind them.
func TestShortLines(t *testing.T) {
	letters := " .-01x"
	var visit func(s string, more int)
	visit = func(s string, more int) {
		checkLine(t, s)
		if more == 0 {
			return
		}
		for i := range len(letters) {
			visit(s+letters[i:i+1], more-1)
		}
	}
	for op := range ops {
		visit(plainWord(op), 6)
	}
	visit("", 6)
}

// plainWord is an operation's word.
func plainWord(op int) string {
	word, _, _ := strings.Cut(plainText(api.Record{Op: op}), " ")
	return word
}

// TestLinesNearby has lines of which one byte is left out, or is another one, or comes in, or where two change places.
func TestLinesNearby(t *testing.T) {
	letters := " .-+0159abdeinrtwx\n\t\x00\xff#:,"
	for s := range lineTexts() {
		for i := range len(s) + 1 {
			for k := range len(letters) {
				checkLine(t, s[:i]+letters[k:k+1]+s[i:])
				if i < len(s) {
					checkLine(t, s[:i]+letters[k:k+1]+s[i+1:])
				}
			}
			if i < len(s) {
				checkLine(t, s[:i]+s[i+1:])
				checkLine(t, s[:i])
				checkLine(t, strings.ToUpper(s[:i+1])+s[i+1:])
			}
			if i+1 < len(s) {
				checkLine(t, s[:i]+s[i+1:i+2]+s[i:i+1]+s[i+2:])
			}
		}
	}
}

func TestLongLines(t *testing.T) {
	const many = 1 << 20
	for _, piece := range []string{" ", ".", "0", "1", "9", "-", "new", "new ", "1 ", "1.", "\n", "\xff"} {
		long := strings.Repeat(piece, many)
		for _, s := range []string{long, "new " + long, "min " + long, "insert 1 " + long, "insert " + long + " 1", "meld 1 " + long, "delete 1." + long, "decrease 1.1 " + long, "decrease " + long + ".1 1"} {
			if r, e := Parse(s); r != (api.Record{}) || e != api.ErrBadOp {
				t.Errorf("a line of %d bytes %q is read as %v, %d", len(s), s[:20], r, e)
			}
		}
	}
}

// TestAnswersStay asks twice, with other calls between: nothing is kept (P2).
func TestAnswersStay(t *testing.T) {
	ask := func() []string {
		var l []string
		for s := range lineTexts() {
			r, e := Parse(s)
			l = append(l, s+" "+Text(r)+" "+strconv.Itoa(int(e))+string(Encode(r, r)))
			if r, e := Parse(s + " "); r != (api.Record{}) || e != api.ErrBadOp {
				t.Errorf("Parse(%q) = %v, %d", s+" ", r, e)
			}
		}
		slices.Sort(l)
		return l
	}
	if a, b := ask(), ask(); !slices.Equal(a, b) {
		t.Error("the second answers are others than the first ones")
	}
}

func FuzzLines(f *testing.F) {
	for s := range lineTexts() {
		f.Add(s)
	}
	for _, s := range wrongLines() {
		f.Add(s)
	}
	f.Fuzz(func(t *testing.T, s string) {
		checkLine(t, s)
	})
}

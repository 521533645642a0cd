package play

import (
	"slices"
	"strconv"
	"strings"
	"testing"

	"haycock/api"
	"haycock/record"
)

// full is a reply with unlike numbers everywhere but in its Code.
var full = api.Reply{Heap: 11, Handle: api.Handle{Slot: 22, Gen: 33}, Key: -44, N: 55}

func TestTextOfEach(t *testing.T) {
	for op, want := range []string{
		"", "heap 11", "handle 22.33", "handle 22.33 key -44", "handle 22.33 key -44", "ok", "key -44", "ok", "len 55", "key -44", "heap 11", "", "",
	} {
		if got := Text(op, full); got != want {
			t.Errorf("Text(%d, %v) = %q, not %q", op, full, got, want)
		}
	}
	for op, want := range []string{
		"", "heap 0", "handle 0.0", "handle 0.0 key 0", "handle 0.0 key 0", "ok", "key 0", "ok", "len 0", "key 0", "heap 0", "", "",
	} {
		if got := Text(op, api.Reply{}); got != want {
			t.Errorf("Text(%d) of nothing = %q, not %q", op, got, want)
		}
	}
}

// TestTextOfErrors: a Code is told of each operation, and of what is none, whatever it is.
func TestTextOfErrors(t *testing.T) {
	for code, want := range map[api.Errno]string{
		1: "error 1", 11: "error 11", 31: "error 31", 171: "error 171", 181: "error 181", -1: "error -1", 256: "error 256", 1 << 32: "error 4294967296",
		leastInt: "error -9223372036854775808", greatestInt: "error 9223372036854775807",
	} {
		r := full
		r.Code = code
		for _, op := range append(slices.Clone(farOps), 0, 1, 2, 3, 4, 5, 6, 7, 8, 9, 10) {
			for _, r := range []api.Reply{r, {Code: code}} {
				if got := Text(op, r); got != want {
					t.Errorf("Text(%d, %v) = %q, not %q", op, r, got, want)
				}
			}
		}
	}
}

func TestTextOfWrongOps(t *testing.T) {
	for _, op := range append(slices.Clone(farOps), api.OpBad) {
		for _, r := range []api.Reply{full, {}} {
			if got := Text(op, r); got != "" {
				t.Errorf("Text(%d, %v) = %q", op, r, got)
			}
		}
	}
}

// TestTextOfNumbers: each number is told as layer 1's Digits, in all its bits.
func TestTextOfNumbers(t *testing.T) {
	for _, n := range someKeys {
		for _, gen := range append([]uint32{0, 1, 2, 10}, farHalves...) {
			r := api.Reply{Heap: int(n), Handle: api.Handle{Slot: int(n ^ 3), Gen: gen}, Key: n ^ 5, N: int(n ^ 6)}
			for op := -1; op < 12; op++ {
				if got, want := Text(op, r), plainText(op, r); got != want {
					t.Errorf("Text(%d, %v) = %q, not %q", op, r, got, want)
				}
			}
		}
	}
	far := api.Reply{Heap: leastInt, Handle: api.Handle{Slot: greatestInt, Gen: greatestHalf}, Key: leastInt, N: greatestInt}
	for op, want := range map[int]string{
		1: "heap -9223372036854775808", 2: "handle 9223372036854775807.4294967295", 3: "handle 9223372036854775807.4294967295 key -9223372036854775808",
		6: "key -9223372036854775808", 8: "len 9223372036854775807",
	} {
		if got := Text(op, far); got != want {
			t.Errorf("Text(%d, %v) = %q, not %q", op, far, got, want)
		}
	}
}

// wantScript asks Script of a store with three slots, two generations each, for those lines.
func wantScript(t *testing.T, text, want string) {
	t.Helper()
	if got := Script(some, 3, 2, text); got != want {
		t.Errorf("Script(%q) = %q, not %q", text, got, want)
	}
}

// TestScriptOfExample is the chapter's own one.
func TestScriptOfExample(t *testing.T) {
	forEach(t, func(t *testing.T, c api.Config) {
		if got, want := Script(c, 1, 1, "new\ninsert 1 5\nextract 1\nmin 1"), "heap 1\nhandle 0.1\nhandle 0.1 key 5\nerror 172\n"; got != want {
			t.Errorf("Script = %q, not %q", got, want)
		}
	})
}

// TestScriptOfTale tells each operation and each error.
func TestScriptOfTale(t *testing.T) {
	var text, want []string
	for _, x := range tale() {
		r := record.Clean(x.r)
		text, want = append(text, record.Text(r)), append(want, plainText(r.Op, x.want)+"\n")
	}
	told := "error 171\nheap 1\nheap 2\nerror 172\nerror 172\nlen 0\nhandle 0.1\nhandle 1.1\nhandle 2.1\nerror 32\nerror 171\nhandle 0.1 key 5\nhandle 1.1 key -3\nlen 2\nheap 2\nkey -3\nerror 173\nok\nkey 4\nhandle 2.1 key 4\nerror 174\nerror 171\nok\nerror 171\nlen 3\nheap 2\nhandle 1.1 key -3\nerror 33\nerror 33\nerror 33\nerror 33\nerror 181\nhandle 1.2\nhandle 2.1 key 4\nkey 4\nerror 33\nhandle 1.2 key 4\nerror 181\nhandle 2.2\nerror 32\nheap 3\n"
	if strings.Join(want, "") != told {
		t.Fatalf("the tale is told otherwise: %q", want)
	}
	forEach(t, func(t *testing.T, c api.Config) {
		for n := range len(text) + 1 {
			for _, last := range []string{"", "\n"} {
				if n == 0 && last != "" {
					continue
				}
				in, told := strings.Join(text[:n], "\n")+last, strings.Join(want[:n], "")
				if got := Script(c, 3, 2, in); got != told {
					t.Fatalf("Script(%q) = %q, not %q", in, got, told)
				}
			}
		}
	})
}

// TestLines: a line ends at a byte 10 alone; the last piece is none, if it is empty, and no other one.
func TestLines(t *testing.T) {
	const wrong = "error 181\n"
	for text, want := range map[string]string{
		"":                 "",
		"\n":               wrong,
		"\n\n":             wrong + wrong,
		"\n\n\n":           wrong + wrong + wrong,
		"new":              "heap 1\n",
		"new\n":            "heap 1\n",
		"new\n\n":          "heap 1\n" + wrong,
		"\nnew":            wrong + "heap 1\n",
		"\nnew\n":          wrong + "heap 1\n",
		"new\n\nnew":       "heap 1\n" + wrong + "heap 2\n",
		"new\nnew":         "heap 1\nheap 2\n",
		"new\nnew\n":       "heap 1\nheap 2\n",
		"new\n ":           "heap 1\n" + wrong,
		" ":                wrong,
		" \n":              wrong,
		"new\r\nnew":       wrong + "heap 1\n",
		"new\rnew":         wrong,
		"new\r\n":          wrong,
		"new\vnew":         wrong,
		"new\x00new":       wrong,
		"new\u0085new":     wrong,
		"new\u2028new\n":   wrong,
		"new;new":          wrong,
		"new new":          wrong,
		" new":             wrong,
		"new ":             wrong,
		"\tnew":            wrong,
		"\ufeffnew":        wrong,
		"\xff\nnew":        wrong + "heap 1\n",
		"NEW":              wrong,
		"bad":              wrong,
		"bad\nnew\nbad\n":  wrong + "heap 1\n" + wrong,
		"bad 1\nnew":       wrong + "heap 1\n",
		"new\nmin":         "heap 1\n" + wrong,
		"new\nlen 01":      "heap 1\n" + wrong,
		"new\nlen +1":      "heap 1\n" + wrong,
		"new\nlen -1":      "heap 1\n" + wrong,
		"len 4294967296":   wrong,
		"len 4294967295":   "error 171\n",
		"key 0.4294967295": "error 33\n",
		"key 0.1.1":        wrong,
		"#new\nnew":        wrong + "heap 1\n",
		"new\ninsert 1 9223372036854775807\nmin 1\nmin 1\n": "heap 1\nhandle 0.1\nhandle 0.1 key 9223372036854775807\nhandle 0.1 key 9223372036854775807\n",
		"new\ninsert 1 9223372036854775808\nmin 1":          "heap 1\n" + wrong + "error 172\n",
	} {
		wantScript(t, text, want)
	}
}

// TestScriptsStore: the store is of the capacity and of the generations that were asked for.
func TestScriptsStore(t *testing.T) {
	text := "new\ninsert 1 1\ninsert 1 2\nextract 1\ninsert 1 3\nextract 1\ninsert 1 4\n"
	for _, x := range []struct {
		capacity int
		most     uint32
		want     string
	}{
		{0, 1, "heap 1\nerror 32\nerror 32\nerror 172\nerror 32\nerror 172\nerror 32\n"},
		{1, 1, "heap 1\nhandle 0.1\nerror 32\nhandle 0.1 key 1\nerror 32\nerror 172\nerror 32\n"},
		{1, 2, "heap 1\nhandle 0.1\nerror 32\nhandle 0.1 key 1\nhandle 0.2\nhandle 0.2 key 3\nerror 32\n"},
		{1, 3, "heap 1\nhandle 0.1\nerror 32\nhandle 0.1 key 1\nhandle 0.2\nhandle 0.2 key 3\nhandle 0.3\n"},
		{2, 1, "heap 1\nhandle 0.1\nhandle 1.1\nhandle 0.1 key 1\nerror 32\nhandle 1.1 key 2\nerror 32\n"},
		{2, greatestHalf, "heap 1\nhandle 0.1\nhandle 1.1\nhandle 0.1 key 1\nhandle 0.2\nhandle 1.1 key 2\nhandle 1.2\n"},
		{mostSlots, 1, "heap 1\nhandle 0.1\nhandle 1.1\nhandle 0.1 key 1\nhandle 2.1\nhandle 1.1 key 2\nhandle 3.1\n"},
	} {
		for range 2 {
			if got := Script(some, x.capacity, x.most, text); got != x.want {
				t.Errorf("Script of %d slots and %d generations = %q, not %q", x.capacity, x.most, got, x.want)
			}
		}
	}
}

// TestScriptOfNoStore: the error alone, as one line, however many lines there are.
func TestScriptOfNoStore(t *testing.T) {
	for _, x := range wrongStores {
		want := "error " + strconv.Itoa(int(x.want)) + "\n"
		for _, text := range []string{"", "\n", "new", "new\nnew\n", "no such line", strings.Repeat("\n", mostText)} {
			if got := Script(x.c, x.capacity, x.most, text); got != want {
				t.Errorf("Script(%v, %d, %d) of %d bytes = %q, not %q", x.c, x.capacity, x.most, len(text), got, want)
			}
		}
		// A text that is too long is told first.
		for _, n := range []int{mostText + 1, mostText + 2, 1 << 17} {
			if got := Script(x.c, x.capacity, x.most, strings.Repeat("\n", n)); got != "error 31\n" {
				t.Errorf("Script(%v, %d, %d) of %d bytes = %q", x.c, x.capacity, x.most, n, got)
			}
		}
	}
}

// TestLongTexts: how long a text is tells its bytes, whatever they stand for.
func TestLongTexts(t *testing.T) {
	const tooLong, wrong = "error 31\n", "error 181\n"
	for piece, answer := range map[string]string{"\n": wrong, "new\n": "", "x": "", " ": "", "\u00e9": "", "\u20ac": "", "\U0001f33e": "", "\xff": "", "\x00\n": wrong} {
		count := mostText / len(piece)
		most := strings.Repeat(piece, count) + strings.Repeat("x", mostText-count*len(piece))
		got := Script(some, 1, 1, most)
		if got == tooLong {
			t.Errorf("%d bytes of %q are too long", len(most), piece)
		}
		if answer != "" && got != strings.Repeat(answer, count) {
			t.Errorf("%d bytes of %q aren't answered %d times", len(most), piece, count)
		}
		for _, more := range []string{"\n", "x", piece} {
			if got := Script(some, 1, 1, most+more); got != tooLong {
				t.Errorf("%d bytes of %q aren't too long", len(most+more), piece)
			}
		}
	}
	if got := Script(some, 1, 1, strings.Repeat("x", mostText)); got != wrong {
		t.Errorf("one long line: %q", got)
	}
	if got := Script(some, 1, 1, strings.Repeat("new\n", 1<<22)); got != tooLong {
		t.Errorf("a very long text: %d bytes", len(got))
	}
}

// TestLongestScript: as many lines as a text can have, whose answers are longer than they are.
func TestLongestScript(t *testing.T) {
	var want strings.Builder
	for h := range mostText / 4 {
		want.WriteString("heap " + strconv.Itoa(h+1) + "\n")
	}
	if got := Script(some, 1, 1, strings.Repeat("new\n", mostText/4)); got != want.String() {
		t.Error("as many heaps as there can be in a text aren't told one by one")
	}
	key := "handle 0.1 key -9223372036854775808\n"
	text := "new\ninsert 1 -9223372036854775808\n" + strings.Repeat("min 1\n", 10900)
	if got := Script(some, 1, 1, text); got != "heap 1\nhandle 0.1\n"+strings.Repeat(key, 10900) {
		t.Error("one thing asked again and again isn't told each time")
	}
}

// TestMixedLines holds Script against the plain one, upon each Config.
func TestMixedLines(t *testing.T) {
	forEach(t, func(t *testing.T, c api.Config) {
		for seed := range 20 {
			roll := roller(uint64(seed))
			var lines []string
			for _, r := range mixedWay(uint64(2000+seed), 200) {
				line := record.Text(record.Clean(r))
				switch roll(30) {
				case 0:
					line += " "
				case 1:
					line = ""
				case 2:
					line = strings.ToUpper(line)
				case 3:
					line += " 1"
				}
				lines = append(lines, line)
			}
			text := strings.Join(lines, "\n")
			if got, want := Script(c, 4, 3, text), plainScript(open(t, c, 4, 3), text); got != want {
				t.Fatalf("Script(%q) = %q, not %q", text, got, want)
			}
		}
	})
}

func FuzzScript(f *testing.F) {
	f.Add("", uint8(0), uint8(0))
	f.Add("new\ninsert 1 5\nextract 1\nmin 1", uint8(1), uint8(0))
	f.Add("new\nnew\ninsert 1 5\ninsert 2 -5\nmeld 1 2\ndecrease 0.1 -6\nhome 1.1\nkey 0.1\ndelete 0.1\nlen 1\nbad\n\n", uint8(3), uint8(1))
	f.Fuzz(func(t *testing.T, text string, capacity, most uint8) {
		for _, c := range []api.Config{some, {Kind: api.KindBinomial}, {Kind: api.KindSkew}, {Kind: api.KindLibrary}} {
			want := "error 31\n"
			if len(text) <= mostText {
				want = plainScript(open(t, c, int(capacity), uint32(most)+1), text)
			}
			if got := Script(c, int(capacity), uint32(most)+1, text); got != want {
				t.Errorf("Script(%v, %d, %d, %q) = %q, not %q", c, capacity, most, text, got, want)
			}
		}
	})
}

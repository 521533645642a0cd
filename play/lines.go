package play

import (
	"strings"

	"haycock/api"
	"haycock/entry"
	"haycock/pq"
	"haycock/record"
)

const (
	// blank stands ahead of each thing behind a word.
	blank = " "
	// mark stands between a handle's slot and its generation.
	mark = "."
	// end stands at the end of each line.
	end = "\n"
)

// Text: a reply as a text.
func Text(op int, r api.Reply) string {
	if r.Code != api.OK {
		return errorText(r.Code)
	}
	switch op {
	case api.OpNew, api.OpHome:
		return numberText("heap", int64(r.Heap))
	case api.OpInsert:
		return handleText(r.Handle)
	case api.OpMin, api.OpExtract:
		return handleText(r.Handle) + blank + keyText(r.Key)
	case api.OpDelete, api.OpKey:
		return keyText(r.Key)
	case api.OpLen:
		return numberText("len", int64(r.N))
	case api.OpDecrease, api.OpMeld:
		return "ok"
	}
	return ""
}

func errorText(e api.Errno) string {
	return numberText("error", int64(e))
}

func keyText(key int64) string {
	return numberText("key", key)
}

func handleText(x api.Handle) string {
	return numberText("handle", int64(x.Slot)) + mark + entry.Digits(int64(x.Gen))
}

// numberText is a number with a word ahead of it.
func numberText(word string, n int64) string {
	return word + blank + entry.Digits(n)
}

// Script: lines, and what is answered.
func Script(c api.Config, capacity int, most uint32, text string) string {
	if len(text) > api.MaxText {
		return errorText(api.ErrRange) + end
	}
	s, e := pq.Open(c, capacity, most)
	if e != api.OK {
		return errorText(e) + end
	}
	var answers strings.Builder
	// Lines gives no piece behind the last end, if that one is empty.
	for line := range strings.Lines(text) {
		answers.WriteString(answer(s, strings.TrimSuffix(line, end)))
		answers.WriteString(end)
	}
	return answers.String()
}

// answer is what a line without its end is answered.
func answer(s *pq.Store, line string) string {
	r, e := record.Parse(line)
	if e != api.OK {
		return errorText(e)
	}
	return Text(r.Op, One(s, r))
}

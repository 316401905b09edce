package lex_test

import (
	"reflect"
	"strings"
	"testing"

	"trireme/api"
	"trireme/lex"
)

func TestP1_1ScanReturnsTokensWithPlaces(t *testing.T) {
	got, e, at := lex.Scan("(pod \"a b\") ; no ( \x01\n\r\té€(x\"\\n\\\"\\\\\"y;c")
	want := []api.Token{
		{Kind: api.Open, Text: "(", At: 0, Line: 1, Col: 1},
		{Kind: api.Word, Text: "pod", At: 1, Line: 1, Col: 2},
		{Kind: api.Text, Text: "a b", At: 5, Line: 1, Col: 6},
		{Kind: api.Close, Text: ")", At: 10, Line: 1, Col: 11},
		{Kind: api.Word, Text: "é€", At: 23, Line: 2, Col: 3},
		{Kind: api.Open, Text: "(", At: 28, Line: 2, Col: 5},
		{Kind: api.Word, Text: "x", At: 29, Line: 2, Col: 6},
		{Kind: api.Text, Text: "\n\"\\", At: 30, Line: 2, Col: 7},
		{Kind: api.Word, Text: "y", At: 38, Line: 2, Col: 15},
	}
	if e != api.OK || at != 0 || !reflect.DeepEqual(got, want) {
		t.Errorf("got %v %d %d", got, e, at)
	}
}

func TestP1_1ScanCountsLinesWithinTextsAndComments(t *testing.T) {
	got, e, _ := lex.Scan("\"a\nb\tc\" x ; é\ny")
	want := []api.Token{
		{Kind: api.Text, Text: "a\nb\tc", At: 0, Line: 1, Col: 1},
		{Kind: api.Word, Text: "x", At: 8, Line: 2, Col: 6},
		{Kind: api.Word, Text: "y", At: 15, Line: 3, Col: 1},
	}
	if e != api.OK || !reflect.DeepEqual(got, want) {
		t.Errorf("got %v %d", got, e)
	}
}

func TestP1_1ScanAcceptsLimitsAndEmptyTexts(t *testing.T) {
	for _, s := range []string{
		"", " \t\n\r", ";", "; \x7f\x02 é", "\"\"", "\ufffd", "\"\ufffd\"", "\u0080\U0010FFFF",
		strings.Repeat("€", 64), strings.Repeat("\U0001F600", 64) + ")" + strings.Repeat("x", 64),
		strings.Repeat(" ", api.MaxText), "\"" + strings.Repeat("x", 1000) + "\"",
	} {
		if _, e, at := lex.Scan(s); e != api.OK || at != 0 {
			t.Errorf("%.20q: %d %d", s, e, at)
		}
	}
}

func TestP1_1ScanErrors(t *testing.T) {
	long := strings.Repeat("x", 65)
	for _, c := range []struct {
		s  string
		e  api.Errno
		at int
	}{
		{strings.Repeat(" ", api.MaxText+1), api.ErrBig, api.MaxText},
		{"\x01" + strings.Repeat(" ", api.MaxText), api.ErrBig, api.MaxText},
		{"a \x00", api.ErrChar, 2},
		{"a\x7f", api.ErrChar, 1},
		{"\x0b", api.ErrChar, 0},
		{"é\xff", api.ErrChar, 2},
		{"\xc0\x80", api.ErrChar, 0},
		{"\xed\xa0\x80", api.ErrChar, 0},
		{"\xf4\x90\x80\x80", api.ErrChar, 0},
		{"a\xe2\x82", api.ErrChar, 1},
		{"; ok \xff", api.ErrChar, 5},
		{"\"a\rb\"", api.ErrChar, 2},
		{"\"a\x7f\"", api.ErrChar, 2},
		{"\"a\x1f\"", api.ErrChar, 2},
		{"\"\xff\"", api.ErrChar, 1},
		{"\"ab\\t\"", api.ErrChar, 3},
		{"\"\\\xff\"", api.ErrChar, 1},
		{"\"\\é\"", api.ErrChar, 1},
		{"x \"ab\\", api.ErrChar, 5},
		{"x \"ab", api.ErrQuote, 2},
		{"\"", api.ErrQuote, 0},
		{"\"a\\\"", api.ErrQuote, 0},
		{"\"a\x01", api.ErrChar, 2},
		{"(" + long, api.ErrLong, 1},
		{long + "\x01", api.ErrLong, 0},
		{long[1:] + "\x01" + long, api.ErrChar, 64},
		{"a " + strings.Repeat("é", 65), api.ErrLong, 2},
	} {
		if l, e, at := lex.Scan(c.s); len(l) != 0 || e != c.e || at != c.at {
			t.Errorf("%.20q: got %v %d %d, want %d %d", c.s, l, e, at, c.e, c.at)
		}
	}
}

func TestP1_2Quote(t *testing.T) {
	for s, want := range map[string]string{
		"":                   `""`,
		"a b":                `"a b"`,
		"\n\"\\":             `"\n\"\\"`,
		"\t\r\x00\xff\x7fé)": "\"\t\r\x00\xff\x7fé)\"",
	} {
		if got := lex.Quote(s); got != want {
			t.Errorf("%q: got %q", s, got)
		}
	}
}

func TestP1_2Show(t *testing.T) {
	word := func(s string) api.Token { return api.Token{Kind: api.Word, Text: s} }
	open, shut := api.Token{Kind: api.Open}, api.Token{Kind: api.Close, Text: "x"}
	text := api.Token{Kind: api.Text, Text: "a\"\n"}
	for _, c := range []struct {
		l    []api.Token
		want string
	}{
		{nil, ""},
		{[]api.Token{open, shut}, "()"},
		{[]api.Token{open, word("a"), text, open, shut, shut, word("b"), open}, "(a \"a\\\"\\n\" ()) b ("},
		{[]api.Token{shut, shut, open, open, text, text}, ")) ((\"a\\\"\\n\" \"a\\\"\\n\""},
		{[]api.Token{{Kind: 9, Text: "a\"b"}, word("x")}, "a\"b x"},
		{[]api.Token{word("x"), {Kind: 0, Text: ""}}, "x "},
	} {
		if got := lex.Show(c.l); got != c.want {
			t.Errorf("%v: got %q", c.l, got)
		}
	}
}

func TestP1_3Word(t *testing.T) {
	for _, s := range []string{"a", "é", "-", "a'b\\", "\u0085", "\ufffd", strings.Repeat("€", 64)} {
		if !lex.Word(s) {
			t.Errorf("%q is a word", s)
		}
	}
	for _, s := range []string{"", " ", "a b", " a", "a\n", "(", "a)", "\"a\"", "a;", "a\x7f", "\xff", "a\xc3", "\xed\xa0\x80", strings.Repeat("x", 65)} {
		if lex.Word(s) {
			t.Errorf("%q is no word", s)
		}
	}
}

func TestP1_3Runes(t *testing.T) {
	for s, want := range map[string]int{
		"": 0, "a": 1, "é€\U0001F600": 3, "\x00\n\"": 3, "\ufffd": 1, strings.Repeat("é", 70000): 70000,
		"\xff": -1, "a\xc3": -1, "\xc0\x80": -1, "\xed\xbf\xbf": -1, "\xf4\x90\x80\x80": -1,
	} {
		if got := lex.Runes(s); got != want {
			t.Errorf("%.20q: got %d", s, got)
		}
	}
}

func TestP1_4ShowIsScannedAgain(t *testing.T) {
	for _, s := range []string{
		"(pod \"a\\\\ b\")x y\"\"z(()) ;c\n((a\"\n\")",
		")(\"\\n\\\"\\\\\" é",
	} {
		l, e, _ := lex.Scan(s)
		m, f, _ := lex.Scan(lex.Show(l))
		if e != api.OK || f != api.OK || len(l) != len(m) {
			t.Fatalf("%q: %v %v", s, l, m)
		}
		for i := range l {
			if l[i].Kind != m[i].Kind || l[i].Text != m[i].Text {
				t.Errorf("%q: %v became %v", s, l[i], m[i])
			}
			if i > 0 && l[i].At <= l[i-1].At {
				t.Errorf("%q: the places do not increase", s)
			}
			if l[i].Kind != api.Word {
				continue
			}
			if one, _, _ := lex.Scan(l[i].Text); len(one) != 1 || one[0].Text != l[i].Text {
				t.Errorf("%q: scanned as %v", l[i].Text, one)
			}
		}
	}
}

package tree_test

import (
	"math"
	"reflect"
	"strings"
	"testing"

	"trireme/api"
	"trireme/tree"
)

func list(kids, at int) api.Node { return api.Node{Kind: api.List, Kids: kids, At: at} }
func word(s string, at int) api.Node {
	return api.Node{Kind: api.Word, Text: s, At: at}
}
func text(s string, at int) api.Node {
	return api.Node{Kind: api.Text, Text: s, At: at}
}

func TestP2_1Parse(t *testing.T) {
	for s, want := range map[string][]api.Node{
		"":                         nil,
		" ; nothing":               nil,
		"(a (b) \"c\")":            {list(3, 0), word("a", 1), list(1, 3), word("b", 4), text("c", 7)},
		"é () \"\" (())":           {word("é", 0), list(0, 3), text("", 6), list(1, 9), list(0, 10)},
		"((a)\n\"x\\n\"(b c)) ;)":  {list(3, 0), list(1, 1), word("a", 2), text("x\n", 5), list(2, 10), word("b", 11), word("c", 13)},
		strings.Repeat("x ", 4000): nil,
	} {
		got, e, at := tree.Parse(s)
		if e != api.OK || at != 0 {
			t.Errorf("%.20q: %d %d", s, e, at)
		}
		if len(s) < 1000 && len(got)+len(want) > 0 && !reflect.DeepEqual(got, want) {
			t.Errorf("%q: got %v", s, got)
		}
	}
}

func TestP2_1ParseAcceptsLimits(t *testing.T) {
	deep := strings.Repeat("(", 20) + "x" + strings.Repeat(")", 20)
	if l, e, _ := tree.Parse(deep + deep); e != api.OK || len(l) != 42 {
		t.Error(len(l), e)
	}
	if l, e, _ := tree.Parse("(" + strings.Repeat("x ", 3999) + ")"); e != api.OK || len(l) != 4000 || l[0].Kids != 3999 {
		t.Error(len(l), e)
	}
}

func TestP2_1ParseErrors(t *testing.T) {
	for _, c := range []struct {
		s  string
		e  api.Errno
		at int
	}{
		{"(a", api.ErrOpen, 0},
		{"(a (b) (c", api.ErrOpen, 7},
		{"(a (b (c)", api.ErrOpen, 3},
		{"a)", api.ErrClose, 1},
		{"(a)) (b", api.ErrClose, 3},
		{"a) \x01", api.ErrChar, 3},
		{"(a \"", api.ErrQuote, 3},
		{strings.Repeat(" ", api.MaxText+1), api.ErrBig, api.MaxText},
		{strings.Repeat("x ", 4001), api.ErrBig, 8000},
		{strings.Repeat("x ", 4000) + "()", api.ErrBig, 8000},
		{strings.Repeat("x ", 4000) + "\"\"", api.ErrBig, 8000},
		{strings.Repeat("x ", 4000) + ")x", api.ErrClose, 8000},
		{strings.Repeat("(", 21) + "x" + strings.Repeat(")", 21), api.ErrBig, 20},
		{strings.Repeat("(", 20) + "x () ", api.ErrBig, 22},
		{") " + strings.Repeat("(", 21), api.ErrClose, 0},
		{strings.Repeat("(", 21) + ")", api.ErrBig, 20},
	} {
		if l, e, at := tree.Parse(c.s); len(l) != 0 || e != c.e || at != c.at {
			t.Errorf("%.20q: got %d %d, want %d %d", c.s, e, at, c.e, c.at)
		}
	}
}

func nest(depth int) []api.Node {
	var l []api.Node
	for range depth {
		l = append(l, list(1, 0))
	}
	return append(l, word("x", 0))
}

func TestP2_2Check(t *testing.T) {
	for _, l := range [][]api.Node{
		nil,
		{word("a", 0), list(0, 7), text("", 0)},
		{list(2, 5), list(1, 4), text("a b\n", 3), word("é", 0)},
		nest(20),
		append(nest(20), nest(20)...),
		make4000(4000),
	} {
		if e := tree.Check(l); e != api.OK {
			t.Errorf("%.100v: %d", l, e)
		}
	}
	for _, l := range [][]api.Node{
		{list(1, 0)},
		{list(1, 0), list(1, 0)},
		{list(-1, 0)},
		{list(math.MaxInt, 0), word("a", 0)},
		{list(2, 0), list(math.MaxInt, 0), list(math.MaxInt, 0)},
		{word("a", 0), {Kind: api.Word, Text: "a", Kids: 1}, word("a", 0)},
		{{Kind: api.Text, Text: "a", Kids: 1}, word("a", 0)},
		{{Kind: api.List, Text: "a"}},
		{word("", 0)},
		{word("a b", 0)},
		{word(strings.Repeat("x", 65), 0)},
		{text("\r", 0)},
		{text("\xff", 0)},
		{text(strings.Repeat("x", 65535), 0)},
		{word("a", -1)},
		{list(0, math.MinInt)},
		{text("", -1)},
		{{Kind: api.Open}},
		{{Kind: api.Close}},
		{{Kind: 0}},
		{{Kind: 6}},
		nest(21),
		append(nest(20), nest(21)...),
		make4000(4001),
	} {
		if e := tree.Check(l); e != api.ErrForm {
			t.Errorf("%.100v: %d", l, e)
		}
	}
}

func make4000(n int) []api.Node {
	var l []api.Node
	for range n {
		l = append(l, list(0, 0))
	}
	return l
}

func TestP2_2EndKidsTops(t *testing.T) {
	l := []api.Node{word("a", 0), list(3, 0), word("b", 0), list(2, 0), text("c", 0), list(0, 0), word("d", 0), word("e", 0)}
	for i, want := range []int{1, 7, 3, 6, 5, 6, 7, 8} {
		if got := tree.End(l, i); got != want {
			t.Errorf("End at %d: %d", i, got)
		}
	}
	for i, want := range map[int][]int{0: nil, 1: {2, 3, 6}, 3: {4, 5}, 5: nil, 8: nil, -1: nil, math.MaxInt: nil, math.MinInt: nil} {
		if got := tree.Kids(l, i); len(got)+len(want) > 0 && !reflect.DeepEqual(got, want) {
			t.Errorf("Kids at %d: %v", i, got)
		}
	}
	if got := tree.Tops(l); !reflect.DeepEqual(got, []int{0, 1, 7}) {
		t.Error("Tops:", got)
	}
	for _, i := range []int{-1, 8, math.MaxInt, math.MinInt} {
		if got := tree.End(l, i); got != -1 {
			t.Errorf("End at %d: %d", i, got)
		}
	}
}

func TestP2_2TreesThatAreNotCompleteOrOfOtherKinds(t *testing.T) {
	short := []api.Node{word("a", 0), list(2, 0), word("b", 0)}
	if tree.End(short, 1) != -1 || len(tree.Kids(short, 1)) != 0 || len(tree.Tops(short)) != 0 {
		t.Error("a List lacks a child")
	}
	if tree.End(short, 0) != 1 || tree.End(short, 2) != 3 {
		t.Error("the other trees are complete")
	}
	below := []api.Node{list(1, 0), list(-1, 0), word("b", 0)}
	if tree.End(below, 0) != -1 || tree.End(below, 1) != -1 || len(tree.Tops(below)) != 0 || len(tree.Kids(below, 0)) != 0 {
		t.Error("a negative number of children")
	}
	huge := []api.Node{list(2, 0), list(math.MaxInt, 0), list(math.MaxInt, 0), word("", 0)}
	if tree.End(huge, 0) != -1 || tree.End(huge, 1) != -1 || len(tree.Tops(huge)) != 0 {
		t.Error("a huge number of children")
	}
	odd := []api.Node{{Kind: api.Word, Kids: 2, At: -5}, {Kind: 77}, {Kind: api.Text, Kids: 1}, {}}
	if tree.End(odd, 0) != 4 || !reflect.DeepEqual(tree.Kids(odd, 0), []int{1, 2}) || !reflect.DeepEqual(tree.Tops(odd), []int{0}) {
		t.Error("the kind does not matter")
	}
	if tree.End(nil, 0) != -1 || len(tree.Tops(nil)) != 0 || len(tree.Kids(nil, 0)) != 0 {
		t.Error("no nodes")
	}
}

func TestP2_3Show(t *testing.T) {
	l := []api.Node{list(3, 9), word("a", 9), list(0, 0), list(2, 1), text("b\n\"", 0), list(1, 0), word("c", 0), word("d", 0), text("", 0), list(0, 0)}
	if got := tree.Show(l); got != "(a () (\"b\\n\\\"\" (c)))\nd\n\"\"\n()\n" {
		t.Errorf("%q", got)
	}
	for _, l := range [][]api.Node{nil, {word("a", 0), word("a b", 0)}, {list(1, 0)}, {word("a", -1)}} {
		if got := tree.Show(l); got != "" {
			t.Errorf("%q", got)
		}
	}
}

func TestP2_4ShowIsParsedAgain(t *testing.T) {
	for _, s := range []string{"", "(a (b)\"c\\\\\")d(()())", "\"x\n\t\" y ;z", strings.Repeat("(", 20) + strings.Repeat(")", 20)} {
		l, e, _ := tree.Parse(s)
		if e != api.OK || tree.Check(l) != api.OK {
			t.Fatalf("%q: %d", s, e)
		}
		m, e, _ := tree.Parse(tree.Show(l))
		if e != api.OK || len(m) != len(l) {
			t.Fatalf("%q: %v", s, m)
		}
		for i := range l {
			l[i].At, m[i].At = 0, 0
			if l[i] != m[i] {
				t.Errorf("%q: %v became %v", s, l[i], m[i])
			}
		}
	}
}

package labels_test

import (
	"reflect"
	"slices"
	"strconv"
	"strings"
	"testing"

	"trireme/api"
	"trireme/labels"
)

// of returns labels for keys and values in turn.
func of(s ...string) []api.Label {
	var l []api.Label
	for i := 0; i < len(s); i += 2 {
		l = append(l, api.Label{Key: s[i], Val: s[i+1]})
	}
	return l
}

func many(n int) []api.Label {
	var l []api.Label
	for i := range n {
		l = append(l, api.Label{Key: "k" + strconv.Itoa(100+i)})
	}
	return l
}

func TestP5_1Right(t *testing.T) {
	long := strings.Repeat("x", 64)
	for _, l := range [][]api.Label{nil, {}, of("a", "b"), of("a", ""), of("B", "x", "a", "x", "b", "x"), of(long, long), many(16), of("a", "1", "a-", "1", "a.b", "1")} {
		if !labels.Right(l) {
			t.Error(l)
		}
	}
	for _, l := range [][]api.Label{
		many(17), of("b", "", "a", ""), of("a", "x", "a", "x"), of("a", "x", "a", "y"), of("a", "", "b", "", "a", ""),
		of("", "x"), of("a b", ""), of("a", "b c"), of("a", "("), of("\xff", ""), of("a", "\xff"), of(long+"x", ""), of("a", long+"x"),
	} {
		if labels.Right(l) {
			t.Error(l)
		}
	}
}

func vals(n int) []string {
	var l []string
	for i := range n {
		l = append(l, strconv.Itoa(i))
	}
	return l
}

func TestP5_1RightTerm(t *testing.T) {
	for _, x := range []api.Term{
		{Key: "a", Op: api.In, Vals: []string{"b"}},
		{Key: "a", Op: api.In, Vals: []string{"", "b", "b"}},
		{Key: "a", Op: api.NotIn, Vals: vals(16)},
		{Key: "a", Op: api.Exists},
		{Key: "a", Op: api.Missing, Vals: []string{}},
		{Key: "a", Op: api.Above, Vals: []string{"5"}},
		{Key: "a", Op: api.Below, Vals: []string{"007"}},
		{Key: "a", Op: api.Below, Vals: []string{strconv.Itoa(api.MaxRes)}},
	} {
		if !labels.RightTerm(x) {
			t.Error(x)
		}
	}
	for _, x := range []api.Term{
		{Key: "", Op: api.Exists},
		{Key: "a b", Op: api.Exists},
		{Key: "a", Op: api.In},
		{Key: "a", Op: api.NotIn, Vals: []string{}},
		{Key: "a", Op: api.In, Vals: vals(17)},
		{Key: "a", Op: api.NotIn, Vals: vals(17)},
		{Key: "a", Op: api.In, Vals: []string{"b", "c d"}},
		{Key: "a", Op: api.NotIn, Vals: []string{")"}},
		{Key: "a", Op: api.Exists, Vals: []string{"b"}},
		{Key: "a", Op: api.Missing, Vals: []string{""}},
		{Key: "a", Op: api.Above},
		{Key: "a", Op: api.Above, Vals: []string{"b"}},
		{Key: "a", Op: api.Below, Vals: []string{""}},
		{Key: "a", Op: api.Below, Vals: []string{"1", "2"}},
		{Key: "a", Op: api.Above, Vals: []string{strconv.Itoa(api.MaxRes + 1)}},
		{Key: "a", Op: 0}, {Key: "a", Op: 7, Vals: []string{"1"}}, {Key: "a", Op: -1},
	} {
		if labels.RightTerm(x) {
			t.Error(x)
		}
	}
}

func TestP5_2Get(t *testing.T) {
	l := of("a", "1", "b", "", "c", "3")
	for key, want := range map[string]string{"a": "1", "b": "", "c": "3"} {
		if v, ok := labels.Get(l, key); v != want || !ok {
			t.Error(key, v, ok)
		}
	}
	for _, key := range []string{"", "0", "aa", "d"} {
		if v, ok := labels.Get(l, key); v != "" || ok {
			t.Error(key, v, ok)
		}
	}
	if v, ok := labels.Get(nil, "a"); v != "" || ok {
		t.Error("no labels")
	}
}

func TestP5_2SetAndDrop(t *testing.T) {
	l := of("a", "1", "c", "3")
	for _, c := range []struct{ got, want []api.Label }{
		{labels.Set(l, "b", "2"), of("a", "1", "b", "2", "c", "3")},
		{labels.Set(l, "A", ""), of("A", "", "a", "1", "c", "3")},
		{labels.Set(l, "d", "4"), of("a", "1", "c", "3", "d", "4")},
		{labels.Set(l, "a", "x"), of("a", "x", "c", "3")},
		{labels.Set(l, "c", "3"), l},
		{labels.Set(nil, "no word", "(("), of("no word", "((")},
		{labels.Set(l, "", "e"), of("", "e", "a", "1", "c", "3")},
		{labels.Drop(l, "a"), of("c", "3")},
		{labels.Drop(l, "c"), of("a", "1")},
		{labels.Drop(l, "b"), l},
	} {
		if !reflect.DeepEqual(c.got, c.want) {
			t.Errorf("got %v, want %v", c.got, c.want)
		}
	}
	if got := labels.Drop(of("a", "1"), "a"); len(got) != 0 {
		t.Error(got)
	}
	if got := labels.Set(many(16), "z", ""); len(got) != 17 {
		t.Error("beyond MaxLabels", len(got))
	}
}

func TestP5_2SetAndDropReturnNewMemory(t *testing.T) {
	back := of("a", "1", "c", "3", "spare", "spare")
	l := back[:2]
	for _, got := range [][]api.Label{labels.Set(l, "d", "4"), labels.Set(l, "a", "2"), labels.Drop(l, "c"), labels.Drop(l, "x")} {
		got = got[:cap(got)]
		for i := range got {
			got[i] = api.Label{Key: "new", Val: "new"}
		}
		if !reflect.DeepEqual(back, of("a", "1", "c", "3", "spare", "spare")) {
			t.Fatal("the argument was changed", back)
		}
	}
}

func TestP5_2Has(t *testing.T) {
	l := of("a", "1", "b", "", "c", "3")
	for _, some := range [][]api.Label{nil, of("a", "1"), of("b", ""), of("a", "1", "c", "3"), l} {
		if !labels.Has(l, some) {
			t.Error(some)
		}
	}
	for _, some := range [][]api.Label{of("a", "2"), of("a", ""), of("d", ""), of("a", "1", "b", "", "c", "4"), of("b", "", "z", "")} {
		if labels.Has(l, some) {
			t.Error(some)
		}
	}
	if labels.Has(nil, l) || !labels.Has(nil, nil) {
		t.Error("no labels")
	}
}

func TestP5_3Meets(t *testing.T) {
	l := of("big", "2000000000000000", "e", "", "n", "7", "o", "007", "zone", "a")
	for _, c := range []struct {
		key  string
		op   int
		vals string
		want bool
	}{
		{"zone", api.In, "a b", true}, {"zone", api.In, "b", false}, {"x", api.In, "a", false}, {"zone", api.In, "", false},
		{"zone", api.NotIn, "a b", false}, {"zone", api.NotIn, "b c", true}, {"x", api.NotIn, "a", true}, {"zone", api.NotIn, "", true},
		{"zone", api.Exists, "", true}, {"x", api.Exists, "", false}, {"e", api.Exists, "", true},
		{"zone", api.Missing, "", false}, {"x", api.Missing, "", true}, {"e", api.Missing, "", false},
		{"n", api.Above, "5", true}, {"n", api.Above, "7", false}, {"n", api.Above, "8", false}, {"o", api.Above, "6", true},
		{"n", api.Below, "8", true}, {"n", api.Below, "7", false}, {"n", api.Below, "6", false}, {"o", api.Below, "8", true},
		{"x", api.Above, "0", false}, {"x", api.Below, "9", false}, {"zone", api.Above, "0", false}, {"zone", api.Below, "9", false},
		{"e", api.Below, "9", false}, {"big", api.Above, "1", false}, {"big", api.Below, "1", false}, {"n", api.Below, "10", true},
		{"n", api.Exists, "ignored", true}, {"x", api.Missing, "ignored", true},
	} {
		x := api.Term{Key: c.key, Op: c.op, Vals: strings.Fields(c.vals)}
		if got := labels.Meets(l, x); got != c.want {
			t.Error(x, got)
		}
		if got := labels.All(l, []api.Term{x}); got != c.want {
			t.Error("All", x, got)
		}
	}
	if !labels.Meets(l, api.Term{Key: "e", Op: api.In, Vals: []string{"", "x"}}) || labels.Meets(l, api.Term{Key: "x", Op: api.In, Vals: []string{""}}) {
		t.Error("an empty value is a value")
	}
	if !labels.Meets(l, api.Term{Key: "x", Op: api.NotIn, Vals: []string{""}}) {
		t.Error("a missing key is in nothing")
	}
}

func TestP5_3All(t *testing.T) {
	l := of("n", "7", "zone", "a")
	in := api.Term{Key: "zone", Op: api.In, Vals: []string{"a"}}
	above := api.Term{Key: "n", Op: api.Above, Vals: []string{"5"}}
	missing := api.Term{Key: "n", Op: api.Missing}
	if !labels.All(l, nil) || !labels.All(l, []api.Term{in, above}) {
		t.Error("all are satisfied")
	}
	if labels.All(l, []api.Term{in, above, missing}) || labels.All(l, []api.Term{missing, in}) {
		t.Error("one is not satisfied")
	}
}

func TestMeetsDoesNotPanic(t *testing.T) {
	for op := -1; op <= 8; op++ {
		for n := range 3 {
			labels.Meets(of("a", "1"), api.Term{Key: "a", Op: op, Vals: vals(n)})
		}
	}
}

func TestP5_4Properties(t *testing.T) {
	l := of("a", "1", "b", "", "n", "7")
	for _, key := range []string{"a", "aa", "b", "n", "z", ""} {
		set := labels.Set(l, key, "new")
		if v, ok := labels.Get(set, key); v != "new" || !ok {
			t.Error("Get after Set", key)
		}
		for _, other := range []string{"a", "aa", "b", "n", "z", ""} {
			v, ok := labels.Get(l, other)
			w, is := labels.Get(set, other)
			if other != key && (v != w || ok != is) {
				t.Error("another key", key, other)
			}
		}
		if !slices.IsSortedFunc(set, func(x, y api.Label) int { return strings.Compare(x.Key, y.Key) }) {
			t.Error("not sorted", set)
		}
		for _, ops := range [][2]int{{api.In, api.NotIn}, {api.Exists, api.Missing}} {
			x := api.Term{Key: key, Op: ops[0], Vals: []string{"1", "7"}}
			y := api.Term{Key: key, Op: ops[1], Vals: []string{"1", "7"}}
			if labels.Meets(l, x) == labels.Meets(l, y) {
				t.Error("both or none", key, ops)
			}
		}
	}
}

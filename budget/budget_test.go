package budget_test

import (
	"reflect"
	"slices"
	"strconv"
	"strings"
	"testing"

	"trireme/api"
	"trireme/budget"
)

func match(s ...string) []api.Label {
	var l []api.Label
	for i := 0; i < len(s); i += 2 {
		l = append(l, api.Label{Key: s[i], Val: s[i+1]})
	}
	return l
}

func on(name, machine string, labels ...string) api.Bound {
	return api.Bound{Pod: api.Pod{Name: name, Need: api.Res{Pods: 1}, Labels: match(labels...)}, On: machine}
}

func TestP15_1Right(t *testing.T) {
	var most []api.Budget
	for i := range 17 {
		most = append(most, api.Budget{Name: "b" + strconv.Itoa(i), Match: match("a", "b"), Least: i})
	}
	good := api.Budget{Name: "b", Match: match("a", "", "b", "c"), Least: 400}
	for _, l := range [][]api.Budget{nil, most[:16], {good}, {good, {Name: "a", Match: match("a", "")}}} {
		if !budget.Right(l) {
			t.Error(l)
		}
	}
	for i, l := range [][]api.Budget{
		most, {{}}, {{Name: "a"}}, {{Name: "a", Match: []api.Label{}}}, {{Name: "", Match: match("a", "")}}, {{Name: "a b", Match: match("a", "")}},
		{{Name: "a", Match: match("b", "", "a", "")}}, {{Name: "a", Match: match("a", "x y")}}, {good, {Name: "c", Match: match("a", ""), Least: -1}},
		{{Name: "a", Match: match("a", ""), Least: 401}}, {good, most[0], good}, {good, {Name: "b", Match: match("z", "")}}, {{Name: strings.Repeat("x", 65), Match: match("a", "")}},
	} {
		if budget.Right(l) {
			t.Error(i, l)
		}
	}
}

func TestP15_1Spare(t *testing.T) {
	bs := []api.Bound{on("p", "m", "app", "x"), on("q", "", "app", "x"), on("r", "n", "app", "x", "b", "c"), on("s", "m", "app", "y"), on("t", "unknown", "app", "x")}
	for i, c := range []struct {
		b    api.Budget
		want int
	}{
		{api.Budget{Match: match("app", "x")}, 3},
		{api.Budget{Match: match("app", "x"), Least: 1}, 2},
		{api.Budget{Match: match("app", "x"), Least: 5}, -2},
		{api.Budget{Match: match("app", "x", "b", "c"), Least: 1}, 0},
		{api.Budget{Match: match("app", "z"), Least: 400}, -400},
	} {
		if got := budget.Spare(c.b, bs); got != c.want {
			t.Error(i, got)
		}
	}
}

func TestP15_2May(t *testing.T) {
	l := []api.Budget{{Name: "x", Match: match("app", "x"), Least: 1}, {Name: "b", Match: match("b", "c"), Least: 1}, {Name: "z", Match: match("app", "z"), Least: 9}}
	bs := []api.Bound{on("p", "m", "app", "x"), on("q", "n", "app", "x"), on("r", "n", "app", "x", "b", "c"), on("s", "", "b", "c"), on("t", "elsewhere", "app", "y")}
	for name, want := range map[string]api.Errno{"p": api.OK, "q": api.OK, "r": api.ErrMin, "s": api.ErrState, "t": api.OK, "u": api.ErrNone, "": api.ErrNone} {
		if got := budget.May(l, bs, name); got != want {
			t.Error(name, got)
		}
	}
	l[0].Least = 3
	if budget.May(l, bs, "p") != api.ErrMin {
		t.Error("a Spare of 0")
	}
	l[0].Least = 4
	if budget.May(l, bs, "p") != api.ErrMin || budget.May(nil, bs, "p") != api.OK || budget.May(l, bs, "s") != api.ErrState {
		t.Error("a negative Spare")
	}
}

func TestP15_3Evict(t *testing.T) {
	l := []api.Budget{{Name: "x", Match: match("app", "x"), Least: 1}}
	bs := []api.Bound{on("p", "m", "app", "x"), on("q", "n", "app", "x"), on("r", "n")}
	before := slices.Clone(bs)
	next, e := budget.Evict(l, bs, "p")
	want := slices.Clone(bs)
	want[0].On = ""
	if e != api.OK || !reflect.DeepEqual(next, want) || !reflect.DeepEqual(bs, before) {
		t.Error(next, e)
	}
	for name, want := range map[string]api.Errno{"p": api.ErrState, "q": api.ErrMin, "x": api.ErrNone} {
		if got, e := budget.Evict(l, next, name); len(got) != 0 || e != want {
			t.Error(name, got, e)
		}
	}
}

func TestP15_3All(t *testing.T) {
	l := []api.Budget{{Name: "x", Match: match("app", "x"), Least: 1}}
	bs := []api.Bound{on("p", "m", "app", "x"), on("q", "n", "app", "x"), on("r", "n"), on("s", "k", "app", "x"), on("t", "")}
	for names, want := range map[string]bool{
		"": true, "p": true, "p q": true, "q p r": true, "r s p": true, "p q s": false, "p p": false, "r u": false, "t": false, "r r": false,
	} {
		if got := budget.All(l, bs, strings.Fields(names)); got != want {
			t.Error(names, got)
		}
	}
	if !budget.All(nil, bs, []string{"p", "q", "s", "r"}) {
		t.Error("without budgets")
	}
	if bs[0].On != "m" {
		t.Error("the argument was changed")
	}
}

func TestP15_4Properties(t *testing.T) {
	l := []api.Budget{{Name: "x", Match: match("app", "x"), Least: 1}, {Name: "b", Match: match("b", "c"), Least: 2}}
	bs := []api.Bound{on("p", "m", "app", "x", "b", "c"), on("q", "n", "app", "x"), on("r", "n", "b", "c"), on("s", "k", "b", "c")}
	for _, name := range []string{"r", "p", "q", "s", "p"} {
		if next, e := budget.Evict(l, bs, name); e == api.OK {
			bs = next
		}
		for _, b := range l {
			if budget.Spare(b, bs) < 0 {
				t.Error("a negative Spare", b, name)
			}
		}
	}
	bs = []api.Bound{on("p", "m", "app", "x", "b", "c"), on("q", "n", "app", "x"), on("r", "n", "b", "c"), on("s", "k", "b", "c")}
	for _, names := range [][2]string{{"p q", "q p"}, {"p r", "r p"}, {"q r", "r q"}, {"p q r", "r q p"}} {
		if budget.All(l, bs, strings.Fields(names[0])) != budget.All(l, bs, strings.Fields(names[1])) {
			t.Error("the order matters", names)
		}
	}
}

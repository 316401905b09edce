package dump_test

import (
	"reflect"
	"slices"
	"strconv"
	"strings"
	"testing"

	"trireme/api"
	"trireme/dump"
)

func machine(name string) api.Machine {
	return api.Machine{Name: name, Group: "g", Has: api.Res{Cpu: 1000, Pods: 5}, Labels: []api.Label{{Key: "a", Val: "b"}}, Ready: true}
}

func pod(name string) api.Pod {
	return api.Pod{Name: name, Need: api.Res{Cpu: 100, Pods: 1}, Owner: "o"}
}

func on(name, machine string) api.Bound { return api.Bound{Pod: pod(name), On: machine} }

const text = "(machine m (group g) (has 1 0 0 5 0) (label a b) ready)\n(machine n (group g) (has 1 0 0 5 0) (label a b) ready)\n" +
	"(on n (pod p (need 100m 0 0 0) (owner o)))\n(on \"\" (pod q (need 100m 0 0 0) (owner o)))\n"

func TestP34_1Show(t *testing.T) {
	ms, bs := []api.Machine{machine("m"), machine("n")}, []api.Bound{on("p", "n"), on("q", "")}
	if got := dump.Show(ms, bs); got != text {
		t.Errorf("%q", got)
	}
	if got := dump.Show(nil, nil); got != "" {
		t.Errorf("%q", got)
	}
	for i, c := range []struct {
		ms []api.Machine
		bs []api.Bound
	}{{ms, append(bs, on("r", "x"))}, {append(ms, machine("m")), bs}, {append(ms, machine("")), bs}, {ms, append(bs, api.Bound{})}} {
		if got := dump.Show(c.ms, c.bs); got != "" {
			t.Errorf("%d: %q", i, got)
		}
	}
}

func TestP34_2Parse(t *testing.T) {
	ms, bs, e, at := dump.Parse(text)
	if !reflect.DeepEqual(ms, []api.Machine{machine("m"), machine("n")}) || !reflect.DeepEqual(bs, []api.Bound{on("p", "n"), on("q", "")}) || e != api.OK || at != 0 {
		t.Error(ms, bs, e, at)
	}
	for _, s := range []string{"", " ; nothing", "(machine m)", "(on \"\" (pod p))"} {
		if ms, bs, e, at := dump.Parse(s); e != api.OK || at != 0 || len(ms)+len(bs) != strings.Count(s, "m)")+strings.Count(s, "p)") {
			t.Error(s, ms, bs, e, at)
		}
	}
}

func TestP34_2ParseErrors(t *testing.T) {
	m := "(machine m) "
	var many strings.Builder
	for i := range 201 {
		many.WriteString("(machine m" + strconv.Itoa(i) + ")")
	}
	for _, c := range []struct {
		s string // with a mark ^ at the position, which is removed
		e api.Errno
	}{
		{m + "^(x", api.ErrOpen}, {m + "^\x01", api.ErrChar}, {"x ^)", api.ErrClose},
		{m + "^x", api.ErrForm}, {m + "^()", api.ErrForm}, {m + "^\"\"", api.ErrForm}, {m + "^(pod p)", api.ErrForm}, {m + "^((machine))", api.ErrForm}, {m + "^(\"on\" m (pod p))", api.ErrForm},
		{m + "^machine", api.ErrForm}, {m + "^on", api.ErrForm}, {"^(machine)", api.ErrForm}, {"(machine m ^(x))", api.ErrField}, {"(machine m (has 1 1 1 1 ^x))", api.ErrNumber},
		{"(on \"\" (pod p)) ^(machine m)", api.ErrForm}, {"(on \"\" (pod p)) ^(machine m (x))", api.ErrForm},
		{m + "^(on)", api.ErrForm}, {m + "^(on m)", api.ErrForm}, {m + "^(on m (pod p) x)", api.ErrForm}, {m + "^(on () () ())", api.ErrForm},
		{m + "(on ^\"m\" (pod p))", api.ErrKind}, {m + "(on ^() x)", api.ErrKind}, {m + "(on m ^x)", api.ErrForm}, {m + "(on m ^(machine n))", api.ErrForm},
		{m + "(on m (pod p ^(x)))", api.ErrField}, {m + "(on x (pod p (port ^y))) z", api.ErrNumber},
		{m + "(on x (pod p))", api.ErrNone}, {m + m, api.ErrTwice}, {"(machine \"\")", api.ErrForm}, {"(on \"\" (pod p)) (on \"\" (pod p))", api.ErrTwice}, {many.String(), api.ErrBig},
		{m + m + "^z", api.ErrForm},
	} {
		s, place := strings.Replace(c.s, "^", "", 1), max(strings.Index(c.s, "^"), 0)
		if ms, bs, e, at := dump.Parse(s); len(ms)+len(bs) != 0 || e != c.e || at != place {
			t.Errorf("%.60s: got %d at %d, want %d at %d", s, e, at, c.e, place)
		}
	}
}

func TestP34_3Diff(t *testing.T) {
	m, n, k := machine("m"), machine("n"), machine("k")
	for i, c := range []struct {
		ms   []api.Machine
		bs   []api.Bound
		ns   []api.Machine
		cs   []api.Bound
		want []string
	}{
		{nil, nil, nil, nil, nil},
		{[]api.Machine{m, n}, []api.Bound{on("p", "m")}, []api.Machine{n, m}, []api.Bound{on("p", "n")}, []string{"p m n"}},
		{[]api.Machine{m, n}, []api.Bound{on("p", "m"), on("q", "")}, []api.Machine{m}, []api.Bound{on("q", "m"), on("p", "")}, []string{"- n", "p m -", "q - m"}},
		{[]api.Machine{m}, []api.Bound{on("p", ""), on("q", "m"), on("r", "m")}, []api.Machine{k, m, n}, []api.Bound{on("s", ""), on("r", "k"), on("a", "m")}, []string{"+ k", "+ n", "- p", "- q", "r m k", "+ s", "+ a"}},
		{[]api.Machine{n, m}, []api.Bound{on("m", "m")}, nil, nil, []string{"- n", "- m", "- m"}},
		{nil, nil, []api.Machine{n, m}, []api.Bound{on("m", "m")}, []string{"+ n", "+ m", "+ m"}},
	} {
		if got := dump.Diff(c.ms, c.bs, c.ns, c.cs); !slices.Equal(got, c.want) {
			t.Errorf("%d: %q", i, got)
		}
	}
	other := machine("m")
	other.Ready = false
	changed := on("p", "m")
	changed.Pod.Rank = 7
	if got := dump.Diff([]api.Machine{m}, []api.Bound{on("p", "m")}, []api.Machine{other}, []api.Bound{changed}); len(got) != 0 {
		t.Error("only names and places count", got)
	}
}

func TestP34_4Properties(t *testing.T) {
	var ms []api.Machine
	var bs []api.Bound
	for i := range 20 {
		ms = append(ms, machine("m"+strconv.Itoa(i)))
		p := on("p"+strconv.Itoa(i), "m"+strconv.Itoa(i/3))
		if i%5 == 0 {
			p.On = ""
		}
		p.Pod.Ports = []int{i + 1, i + 50}
		bs = append(bs, p)
	}
	gotM, gotB, e, _ := dump.Parse(dump.Show(ms, bs))
	if e != api.OK || !reflect.DeepEqual(gotM, ms) || !reflect.DeepEqual(gotB, bs) {
		t.Error(gotM, gotB, e)
	}
	if got := dump.Diff(ms, bs, ms, bs); len(got) != 0 {
		t.Error(got)
	}
}

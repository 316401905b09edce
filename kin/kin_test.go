package kin_test

import (
	"reflect"
	"testing"

	"trireme/api"
	"trireme/kin"
	"trireme/spec"
)

func pod(name string) api.Pod {
	return api.Pod{Name: name, Need: api.Res{Cpu: 100, Pods: 1}, Labels: []api.Label{{Key: "app", Val: "x"}}}
}

// changes are one change of each field that keeps a pod valid.
var changes = []func(*api.Pod){
	func(p *api.Pod) { p.Need.Cpu++ }, func(p *api.Pod) { p.Need.Mem++ }, func(p *api.Pod) { p.Need.Disk++ }, func(p *api.Pod) { p.Need.Dev++ },
	func(p *api.Pod) { p.Labels = nil }, func(p *api.Pod) { p.Labels = []api.Label{{Key: "app"}} },
	func(p *api.Pod) { p.Select = []api.Label{{Key: "app", Val: "x"}} }, func(p *api.Pod) { p.Apart = []api.Label{{Key: "app", Val: "x"}} },
	func(p *api.Pod) { p.Apart, p.Wide = []api.Label{{Key: "app", Val: "x"}}, true },
	func(p *api.Pod) { p.Terms = []api.Term{{Key: "a", Op: api.Exists}} }, func(p *api.Pod) { p.Terms = []api.Term{{Key: "a", Op: api.Missing}} },
	func(p *api.Pod) { p.Bears = []api.Toleration{{Any: true}} }, func(p *api.Pod) { p.Bears = []api.Toleration{{Any: true, Effect: 1}} },
	func(p *api.Pod) { p.Ports = []int{80} }, func(p *api.Pod) { p.Ports = []int{81} },
	func(p *api.Pod) { p.Spread, p.Skew = []api.Label{{Key: "app", Val: "x"}}, 1 }, func(p *api.Pod) { p.Spread, p.Skew = []api.Label{{Key: "app", Val: "x"}}, 2 },
	func(p *api.Pod) { p.Rank = 1 }, func(p *api.Pod) { p.Owner = "o" }, func(p *api.Pod) { p.Daemon = true }, func(p *api.Pod) { p.Pinned = true }, func(p *api.Pod) { p.Local = true },
}

func TestP8_1Key(t *testing.T) {
	p := pod("a")
	if got := kin.Key(p); got != "(pod x (need 100m 0 0 0) (label app x))" || p.Name != "a" {
		t.Error(got)
	}
	if got := kin.Key(pod("x")); got != spec.ShowPod(pod("x")) {
		t.Error(got)
	}
	for _, bad := range []api.Pod{{}, pod(""), pod("a b"), {Name: "a"}} {
		if got := kin.Key(bad); got != "" {
			t.Error(got)
		}
	}
}

func TestP8_1Alike(t *testing.T) {
	a, b := pod("a"), pod("b")
	a.Ports, b.Terms = []int{}, []api.Term{}
	if !kin.Alike(a, b) || !kin.Alike(b, a) || !kin.Alike(a, a) {
		t.Error("equivalent pods")
	}
	for i, change := range changes {
		c := pod("a")
		change(&c)
		if kin.Alike(a, c) || kin.Alike(c, a) || !kin.Alike(c, c) {
			t.Error("another field", i)
		}
		for j, other := range changes {
			d := pod("b")
			other(&d)
			if kin.Alike(c, d) != (i == j) {
				t.Error("two changes", i, j)
			}
		}
	}
	if kin.Alike(pod(""), pod("")) || kin.Alike(pod("a"), pod("")) || kin.Alike(pod(""), pod("a")) || kin.Alike(api.Pod{}, api.Pod{}) {
		t.Error("pods that are not valid")
	}
}

func TestP8_2Groups(t *testing.T) {
	other := pod("b")
	other.Rank = 5
	if g, e := kin.Groups([]api.Pod{pod("a"), other, pod("c")}); !reflect.DeepEqual(g, [][]int{{0, 2}, {1}}) || e != api.OK {
		t.Error(g, e)
	}
	if g, e := kin.Groups([]api.Pod{other, pod("z"), pod("y"), {Name: "n", Need: api.Res{Pods: 1}}, pod("x")}); !reflect.DeepEqual(g, [][]int{{0}, {1, 2, 4}, {3}}) || e != api.OK {
		t.Error(g, e)
	}
	if g, e := kin.Groups(nil); len(g) != 0 || e != api.OK {
		t.Error(g, e)
	}
	if g, e := kin.Groups([]api.Pod{pod("a"), other, pod("a")}); len(g) != 0 || e != api.ErrTwice {
		t.Error(g, e)
	}
	if g, e := kin.Groups([]api.Pod{pod("b"), other}); len(g) != 0 || e != api.ErrTwice {
		t.Error("the same name in another class", g, e)
	}
	if g, e := kin.Groups([]api.Pod{pod("a"), pod("a"), pod("")}); len(g) != 0 || e != api.ErrForm {
		t.Error(g, e)
	}
}

func TestP8_3Total(t *testing.T) {
	a, b := pod("a"), pod("b")
	b.Need = api.Res{Cpu: 1, Mem: 2, Disk: 3, Pods: 1, Dev: 5}
	if r, e := kin.Total([]api.Pod{a, b, b}); r != (api.Res{Cpu: 102, Mem: 4, Disk: 6, Pods: 3, Dev: 10}) || e != api.OK {
		t.Error(r, e)
	}
	if r, e := kin.Total(nil); r != (api.Res{}) || e != api.OK {
		t.Error(r, e)
	}
	b.Need.Mem = api.MaxRes
	if r, e := kin.Total([]api.Pod{b, a}); r.Mem != api.MaxRes || e != api.OK {
		t.Error(r, e)
	}
	if r, e := kin.Total([]api.Pod{b, b}); r != (api.Res{}) || e != api.ErrOver {
		t.Error(r, e)
	}
	if r, e := kin.Total([]api.Pod{b, b, pod("")}); r != (api.Res{}) || e != api.ErrForm {
		t.Error(r, e)
	}
}

func TestP8_3Find(t *testing.T) {
	l := []api.Pod{pod("a"), pod("b"), pod("b"), {}}
	for name, want := range map[string]int{"a": 0, "b": 1, "": 3, "c": -1} {
		if got := kin.Find(l, name); got != want {
			t.Error(name, got)
		}
	}
	if kin.Find(nil, "a") != -1 {
		t.Error("no pods")
	}
}

func TestP8_4Properties(t *testing.T) {
	var l []api.Pod
	for i := range 60 {
		p := pod("p" + string(rune('A'+i)))
		changes[i*7%len(changes)](&p)
		l = append(l, p)
	}
	groups, e := kin.Groups(l)
	if e != api.OK {
		t.Fatal(e)
	}
	class := map[int]int{}
	for n, g := range groups {
		for _, i := range g {
			if _, twice := class[i]; twice {
				t.Error("in two lists", i)
			}
			class[i] = n
		}
	}
	for i := range l {
		for j := range l {
			if kin.Alike(l[i], l[j]) != (class[i] == class[j]) {
				t.Error(i, j)
			}
		}
	}
	if len(class) != len(l) {
		t.Error("not every index", len(class))
	}
}

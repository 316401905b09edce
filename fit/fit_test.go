package fit_test

import (
	"reflect"
	"slices"
	"testing"

	"trireme/api"
	"trireme/fit"
	"trireme/yard"
)

func machine(name, zone string) api.Machine {
	return api.Machine{Name: name, Has: api.Res{Cpu: 1000, Pods: 10}, Ready: true, Labels: []api.Label{{Key: yard.Zone, Val: zone}}}
}

func pod(name string, cpu int) api.Pod {
	return api.Pod{Name: name, Need: api.Res{Cpu: cpu, Pods: 1}, Labels: []api.Label{{Key: "app", Val: "x"}}}
}

// cases are a yard in which each machine has another reason against the pod p.
func cases() ([]api.Machine, []api.Bound, api.Pod) {
	var ms []api.Machine
	for _, name := range []string{"ok", "down", "full", "port", "select", "term", "taint", "near", "many"} {
		m := machine(name, "z"+name)
		m.Labels = []api.Label{{Key: "s", Val: "1"}, {Key: "t", Val: "1"}, {Key: yard.Zone, Val: "z" + name}}
		ms = append(ms, m)
	}
	ms[1].Ready = false
	ms[4].Labels = []api.Label{{Key: "t", Val: "1"}, {Key: yard.Zone, Val: "z"}}
	ms[5].Labels = []api.Label{{Key: "s", Val: "1"}, {Key: yard.Zone, Val: "z"}}
	ms[6].Taints = []api.Taint{{Key: "a", Effect: api.NoExecute}}
	p := pod("p", 600)
	p.Select, p.Terms, p.Ports = []api.Label{{Key: "s", Val: "1"}}, []api.Term{{Key: "t", Op: api.Exists}}, []int{80}
	p.Apart, p.Spread, p.Skew = []api.Label{{Key: "app", Val: "y"}}, []api.Label{{Key: "app", Val: "x"}}, 1
	port, near := pod("port", 1), pod("near", 1)
	port.Labels, port.Ports, near.Labels = nil, []int{80}, []api.Label{{Key: "app", Val: "y"}}
	other := pod("other", 500)
	other.Labels = nil
	return ms, []api.Bound{{Pod: other, On: "full"}, {Pod: port, On: "port"}, {Pod: near, On: "near"}, {Pod: pod("many", 1), On: "many"}}, p
}

func TestP12_1Why(t *testing.T) {
	ms, bs, p := cases()
	for name, want := range map[string]int{
		"ok": api.FitOk, "down": api.NotReady, "full": api.NoRoom, "port": api.NoPort, "select": api.NoSelect, "term": api.NoTerm,
		"taint": api.Tainted, "near": api.TooNear, "many": api.TooMany, "none": api.NotReady, "": api.NotReady,
	} {
		if got := fit.Why(ms, bs, p, name); got != want {
			t.Error(name, got)
		}
	}
	p.Need.Cpu = 5000
	for name, want := range map[string]int{"ok": api.NoRoom, "near": api.NoRoom, "many": api.NoRoom} {
		if got := fit.Why(ms, bs, p, name); got != want {
			t.Error(name, got)
		}
	}
	if fit.Why(nil, nil, p, "m") != api.NotReady {
		t.Error("an empty yard")
	}
}

func TestP12_2WhereAndTally(t *testing.T) {
	ms, bs, p := cases()
	if got := fit.Tally(ms, bs, p); got != [9]int{1, 1, 1, 1, 1, 1, 1, 1, 1} {
		t.Error(got)
	}
	if got := fit.Where(ms, bs, p); !slices.Equal(got, []string{"ok"}) {
		t.Error(got)
	}
	p.Apart, p.Spread, p.Skew = nil, nil, 0
	if got := fit.Where(ms, bs, p); !slices.Equal(got, []string{"ok", "near", "many"}) {
		t.Error(got)
	}
	if got := fit.Tally(ms, bs, p); got != [9]int{3, 1, 1, 1, 1, 1, 1, 0, 0} {
		t.Error(got)
	}
	if got := fit.Where(nil, nil, p); len(got) != 0 {
		t.Error(got)
	}
	m := []api.Machine{machine("m", "z")}
	if got := fit.Where(m, nil, pod("a", 1000)); !slices.Equal(got, []string{"m"}) {
		t.Error(got)
	}
	full := fit.Put(nil, pod("a", 1000), "m")
	if got := fit.Where(m, full, pod("b", 1)); len(got) != 0 {
		t.Error(got)
	}
	if got := fit.Tally(m, full, pod("b", 1)); got[api.NoRoom] != 1 {
		t.Error(got)
	}
}

func TestP12_3Put(t *testing.T) {
	a, b, c := pod("a", 1), pod("b", 2), pod("c", 3)
	bs := []api.Bound{{Pod: a, On: "m"}, {Pod: b}, {Pod: a, On: "n"}, {Pod: c, On: "n"}}
	a.Need.Cpu = 9
	for _, x := range []struct {
		got, want []api.Bound
	}{
		{fit.Put(bs, a, "k"), []api.Bound{{Pod: b}, {Pod: c, On: "n"}, {Pod: a, On: "k"}}},
		{fit.Put(bs, b, ""), []api.Bound{bs[0], bs[2], bs[3], {Pod: b}}},
		{fit.Put(bs, pod("d", 4), "m"), append(slices.Clone(bs), api.Bound{Pod: pod("d", 4), On: "m"})},
		{fit.Put(nil, api.Pod{}, "x"), []api.Bound{{On: "x"}}},
	} {
		if !reflect.DeepEqual(x.got, x.want) {
			t.Error(x.got)
		}
	}
}

func TestP12_3PutReturnsNewMemory(t *testing.T) {
	back := []api.Bound{{Pod: pod("a", 1), On: "m"}, {Pod: pod("b", 1), On: "m"}, {On: "spare"}}
	p := pod("c", 1)
	got := fit.Put(back[:2], p, "n")
	p.Labels[0].Val = "changed"
	if got[2].Pod.Labels[0].Val != "x" {
		t.Error("the pod's slices are retained")
	}
	got = got[:cap(got)]
	for i := range got {
		got[i] = api.Bound{On: "new"}
	}
	if back[0].On != "m" || back[1].On != "m" || back[2].On != "spare" {
		t.Error("the argument was changed")
	}
}

func TestP12_3Feasible(t *testing.T) {
	ms := []api.Machine{machine("m", "a"), machine("n", "b")}
	on := func(p api.Pod, on string) api.Bound { return api.Bound{Pod: p, On: on} }
	far := pod("far", 1)
	far.Apart, far.Wide = []api.Label{{Key: "app", Val: "x"}}, true
	port, port2 := pod("q", 1), pod("r", 1)
	port.Ports, port2.Ports = []int{1}, []int{1}
	for i, c := range []struct {
		bs   []api.Bound
		want bool
	}{
		{nil, true},
		{[]api.Bound{on(pod("a", 600), "m"), on(pod("b", 400), "m")}, true},
		{[]api.Bound{on(pod("a", 600), "m"), on(pod("b", 600), "m")}, false},
		{[]api.Bound{on(pod("a", 600), "m"), on(pod("b", 600), "n"), on(pod("c", 600), "")}, true},
		{[]api.Bound{on(pod("a", 5000), "")}, true},
		{[]api.Bound{on(pod("a", 5000), "m")}, false},
		{[]api.Bound{on(pod("a", 1), "m"), on(far, "n")}, true},
		{[]api.Bound{on(pod("a", 1), "m"), on(far, "m")}, false},
		{[]api.Bound{on(port, "m"), on(port2, "n")}, true},
		{[]api.Bound{on(port, "m"), on(port2, "m")}, false},
	} {
		if got := fit.Feasible(ms, c.bs); got != c.want {
			t.Error(i, got)
		}
	}
	ms[0].Ready = false
	if fit.Feasible(ms, []api.Bound{on(pod("a", 1), "m")}) {
		t.Error("the machine is not ready")
	}
}

func TestP12_4Properties(t *testing.T) {
	ms, bs, p := cases()
	p.Spread, p.Skew = nil, 0
	sum := 0
	for _, n := range fit.Tally(ms, bs, p) {
		sum += n
	}
	if sum != len(ms) || !fit.Feasible(ms, bs) {
		t.Error(sum)
	}
	for _, name := range fit.Where(ms, bs, p) {
		if !fit.Feasible(ms, fit.Put(bs, p, name)) {
			t.Error("not feasible with the pod on", name)
		}
	}
	for i := range bs {
		if !fit.Feasible(ms, slices.Delete(slices.Clone(bs), i, i+1)) {
			t.Error("not feasible without", i)
		}
	}
}

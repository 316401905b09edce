package plan_test

import (
	"reflect"
	"slices"
	"strings"
	"testing"

	"trireme/api"
	"trireme/block"
	"trireme/budget"
	"trireme/fit"
	"trireme/plan"
)

func machine(name string, cpu int) api.Machine {
	return api.Machine{Name: name, Group: "g", Has: api.Res{Cpu: cpu, Pods: 10}, Ready: true}
}

func pod(name string, cpu int) api.Pod {
	return api.Pod{Name: name, Need: api.Res{Cpu: cpu, Pods: 1}, Owner: "o", Labels: []api.Label{{Key: "app", Val: "x"}}}
}

func on(p api.Pod, machine string) api.Bound { return api.Bound{Pod: p, On: machine} }

func daemon(p api.Pod) api.Pod {
	p.Daemon = true
	return p
}

func moves(s ...string) []api.Move {
	var l []api.Move
	for i := 0; i < len(s); i += 2 {
		l = append(l, api.Move{Pod: s[i], To: s[i+1]})
	}
	return l
}

func TestP26_1Without(t *testing.T) {
	ms := []api.Machine{machine("a", 1), machine("b", 2), machine("c", 3)}
	for barred, want := range map[string][]api.Machine{"": ms, "b": {ms[0], ms[2]}, "c a": {ms[1]}, "x b b": {ms[0], ms[2]}, "a b c": nil} {
		got := plan.Without(ms, strings.Fields(barred))
		if len(got)+len(want) > 0 && !reflect.DeepEqual(got, want) {
			t.Error(barred, got)
		}
	}
	got := plan.Without(ms, nil)
	got[0].Name = "changed"
	if ms[0].Name != "a" {
		t.Error("Without returns a new list")
	}
}

func TestP26_2One(t *testing.T) {
	down := machine("down", 9000)
	down.Ready = false
	slow := machine("slow", 9000)
	slow.Taints = []api.Taint{{Key: "t", Effect: api.Prefer}}
	a, b, c, d := machine("a", 1000), machine("b", 1000), machine("c", 1000), machine("d", 500)
	for i, x := range []struct {
		ms     []api.Machine
		bs     []api.Bound
		barred string
		want   []api.Move
		ok     bool
	}{
		{[]api.Machine{b}, nil, "", nil, false},
		{[]api.Machine{a}, nil, "", nil, true},
		{[]api.Machine{a}, []api.Bound{on(daemon(pod("p", 1)), "a")}, "", nil, true},
		{[]api.Machine{a}, []api.Bound{on(pod("p", 1), "a")}, "", nil, false},
		{[]api.Machine{a, b}, []api.Bound{on(pod("p", 1), "a")}, "", moves("p", "b"), true},
		{[]api.Machine{a, b}, []api.Bound{on(pod("p", 1), "a")}, "b", nil, false},
		{[]api.Machine{a, b}, []api.Bound{on(pod("p", 1), "a")}, "a x", moves("p", "b"), true},
		{[]api.Machine{down, a, b}, []api.Bound{on(pod("p", 600), "a"), on(pod("q", 500), "b")}, "", nil, false},
		{[]api.Machine{a, b, c}, []api.Bound{on(pod("p", 600), "a"), on(pod("q", 500), "a")}, "", moves("p", "b", "q", "c"), true},
		{[]api.Machine{a, b}, []api.Bound{on(pod("p", 600), "a"), on(pod("q", 500), "a")}, "", nil, false},
		{[]api.Machine{a, b, c}, []api.Bound{on(pod("p", 100), "a"), on(pod("x", 50), "b"), on(pod("q", 100), "a")}, "", moves("p", "c", "q", "b"), true},
		{[]api.Machine{slow, a, b}, []api.Bound{on(pod("p", 100), "a"), on(pod("x", 800), "b")}, "", moves("p", "b"), true},
		{[]api.Machine{slow, a, b}, []api.Bound{on(pod("p", 300), "a"), on(pod("x", 800), "b")}, "", moves("p", "slow"), true},
		{[]api.Machine{slow, a, b}, []api.Bound{on(pod("p", 100), "a")}, "b", moves("p", "slow"), true},
		{[]api.Machine{d, a, b}, []api.Bound{on(pod("p", 400), "a"), on(pod("x", 100), "d"), on(pod("y", 150), "b"), on(pod("z", 5000), "")}, "", moves("p", "b"), true},
	} {
		got, ok := plan.One(x.ms, x.bs, "a", strings.Fields(x.barred))
		if !slices.Equal(got, x.want) || ok != x.ok {
			t.Error(i, got, ok)
		}
	}
}

func TestP26_2OneRegardsOtherPodsAndTheYard(t *testing.T) {
	zoned := func(name, zone string) api.Machine {
		m := machine(name, 1000)
		m.Labels = []api.Label{{Key: "zone", Val: zone}}
		return m
	}
	far := pod("far", 1)
	far.Apart, far.Wide = []api.Label{{Key: "app", Val: "x"}}, true
	ms := []api.Machine{zoned("a", "1"), zoned("b", "2"), zoned("c", "2"), zoned("d", "3")}
	// A pod on the barred machine c keeps far away from b, which is in the same zone.
	bs := []api.Bound{on(far, "a"), on(pod("x", 1), "c")}
	if got, ok := plan.One(ms, bs, "a", []string{"c"}); !slices.Equal(got, moves("far", "d")) || !ok {
		t.Error(got, ok)
	}
	// Daemons on the removed machine are no part of the yard.
	bs = []api.Bound{on(far, "a"), on(daemon(pod("y", 1)), "a")}
	if got, ok := plan.One(append(ms, zoned("e", "1")), bs, "a", []string{"b", "c", "d"}); !slices.Equal(got, moves("far", "e")) || !ok {
		t.Error(got, ok)
	}
	// Pods placed before are part of the yard.
	bs = []api.Bound{on(pod("p", 1), "a"), on(far, "a")}
	if got, ok := plan.One(ms, bs, "a", []string{"c"}); !slices.Equal(got, moves("p", "b", "far", "d")) || !ok {
		t.Error(got, ok)
	}
}

func TestP26_3Many(t *testing.T) {
	a, b, c, d := machine("a", 1000), machine("b", 1000), machine("c", 1000), machine("d", 1000)
	all := []api.Machine{a, b, c, d}
	pinned := pod("pin", 1)
	pinned.Pinned = true
	for i, x := range []struct {
		bs    []api.Bound
		names string
		most  int
		want  []api.Plan
	}{
		{[]api.Bound{on(pod("p", 300), "a"), on(pod("q", 300), "b")}, "a b", 9, []api.Plan{{Name: "a", Moves: moves("p", "c")}, {Name: "b", Moves: moves("q", "d")}}},
		{nil, "a b c d", 9, []api.Plan{{Name: "a"}, {Name: "b"}, {Name: "c"}, {Name: "d"}}},
		{nil, "d b", 1, []api.Plan{{Name: "d"}}},
		{nil, "d b", 0, nil},
		{nil, "d b", -1, nil},
		{nil, "", 9, nil},
		{nil, "a x a b", 9, []api.Plan{{Name: "a"}, {Name: "b"}}},
		{[]api.Bound{on(pod("p", 300), "a")}, "a b c d", 9, []api.Plan{{Name: "a", Moves: moves("p", "b")}, {Name: "c"}, {Name: "d"}}},
		{[]api.Bound{on(pod("p", 300), "d")}, "a b c d", 9, []api.Plan{{Name: "a"}, {Name: "b"}, {Name: "c"}}},
		{[]api.Bound{on(pinned, "a"), on(pod("p", 1), "b")}, "a b", 9, []api.Plan{{Name: "b", Moves: moves("p", "c")}}},
		{[]api.Bound{on(pod("p", 600), "a"), on(pod("q", 600), "b"), on(pod("r", 600), "c"), on(pod("s", 300), "d")}, "a d b", 9, []api.Plan{{Name: "a", Moves: moves("p", "d")}}},
		{[]api.Bound{on(pod("p", 5), "a"), on(pod("big", 900), "b"), on(pod("q", 5), "c")}, "a c", 9, []api.Plan{{Name: "a", Moves: moves("p", "d")}, {Name: "c", Moves: moves("q", "d")}}},
	} {
		before := slices.Clone(x.bs)
		got, bs := plan.Many(all, x.bs, nil, strings.Fields(x.names), x.most)
		if len(got)+len(x.want) > 0 && !same(got, x.want) {
			t.Error(i, got)
		}
		if !reflect.DeepEqual(x.bs, before) {
			t.Error(i, "the argument was changed")
		}
		want := slices.Clone(x.bs)
		for _, p := range got {
			for _, m := range p.Moves {
				want[slices.IndexFunc(want, func(b api.Bound) bool { return b.Pod.Name == m.Pod })].On = m.To
			}
		}
		if len(bs)+len(want) > 0 && !reflect.DeepEqual(bs, want) {
			t.Error(i, bs)
		}
	}
}

func same(a, b []api.Plan) bool {
	return slices.EqualFunc(a, b, func(x, y api.Plan) bool { return x.Name == y.Name && slices.Equal(x.Moves, y.Moves) })
}

func TestP26_3ManyKeepsPlannedMachinesAndTheirDaemons(t *testing.T) {
	// The Daemon on the planned machine a keeps its labels in the zone, so that the pod of b cannot move to c.
	zoned := func(name, zone string) api.Machine {
		m := machine(name, 1000)
		m.Labels = []api.Label{{Key: "zone", Val: zone}}
		return m
	}
	far := pod("far", 1)
	far.Labels, far.Apart, far.Wide = nil, []api.Label{{Key: "app", Val: "x"}}, true
	ms := []api.Machine{zoned("a", "1"), zoned("b", "2"), zoned("c", "1")}
	bs := []api.Bound{on(daemon(pod("x", 1)), "a"), on(far, "b")}
	got, after := plan.Many(ms, bs, nil, []string{"a", "b"}, 9)
	if !same(got, []api.Plan{{Name: "a"}}) || !reflect.DeepEqual(after, bs) {
		t.Error(got, after)
	}
}

func TestP26_3ManyRegardsBudgets(t *testing.T) {
	l := []api.Budget{{Name: "b", Match: []api.Label{{Key: "app", Val: "x"}}, Least: 1}}
	ms := []api.Machine{machine("a", 1000), machine("b", 1000), machine("c", 1000)}
	bs := []api.Bound{on(pod("p", 1), "a"), on(pod("q", 1), "a"), on(pod("r", 1), "b")}
	if got, _ := plan.Many(ms, bs, l, []string{"a"}, 9); len(got) != 1 {
		t.Error(got)
	}
	if got, _ := plan.Many(ms, bs[:2], l, []string{"a"}, 9); len(got) != 0 {
		t.Error(got)
	}
	// Moved pods run again, so that a second machine may be planned.
	if got, _ := plan.Many(ms, bs, []api.Budget{{Name: "b", Match: l[0].Match, Least: 2}}, []string{"b", "a"}, 9); !same(got, []api.Plan{{Name: "b", Moves: moves("r", "c")}}) {
		t.Error(got)
	}
	l[0].Least = 2
	if got, _ := plan.Many(ms, []api.Bound{bs[0], bs[2], on(pod("s", 1), "c")}, l, []string{"a", "b"}, 9); !same(got, []api.Plan{{Name: "a", Moves: moves("p", "b")}}) {
		t.Error(got)
	}
}

func TestP26_4Properties(t *testing.T) {
	var ms []api.Machine
	var bs []api.Bound
	for i := range 8 {
		name := string(rune('a' + i))
		ms = append(ms, machine(name, 1000))
		for j := range i % 4 {
			bs = append(bs, on(pod(name+string(rune('0'+j)), 100+20*i), name))
		}
	}
	l := []api.Budget{{Name: "b", Match: []api.Label{{Key: "app", Val: "x"}}, Least: 9}}
	plans, after := plan.Many(ms, bs, l, []string{"a", "b", "c", "d", "e", "f", "g", "h"}, 5)
	if len(plans) == 0 || len(plans) > 5 || !fit.Feasible(ms, bs) || !fit.Feasible(ms, after) || budget.Spare(l[0], after) < 0 {
		t.Error(plans, after)
	}
	for _, p := range plans {
		if len(block.Movable(after, p.Name)) != 0 {
			t.Error("movable pods are left on", p.Name)
		}
		for _, q := range plans {
			for _, m := range q.Moves {
				if m.To == p.Name {
					t.Error("moved to a planned machine", m)
				}
			}
		}
	}
}

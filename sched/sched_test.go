package sched_test

import (
	"reflect"
	"slices"
	"testing"

	"trireme/api"
	"trireme/fit"
	"trireme/sched"
)

func machine(name string, cpu int) api.Machine {
	return api.Machine{Name: name, Has: api.Res{Cpu: cpu, Mem: 1000, Pods: 10}, Ready: true}
}

func pod(name string, cpu, rank int) api.Pod {
	return api.Pod{Name: name, Need: api.Res{Cpu: cpu, Pods: 1}, Rank: rank}
}

func on(p api.Pod, machine string) api.Bound { return api.Bound{Pod: p, On: machine} }

func prefer(m api.Machine, keys ...string) api.Machine {
	for _, key := range keys {
		m.Taints = append(m.Taints, api.Taint{Key: key, Effect: api.Prefer})
	}
	return m
}

func TestP14_1Order(t *testing.T) {
	bs := []api.Bound{on(pod("a", 1, 0), ""), on(pod("b", 1, 5), ""), on(pod("c", 1, 9), "m"), on(pod("d", 1, 5), ""), on(pod("e", 1, 1000), ""), on(pod("f", 1, 0), "")}
	if got := sched.Order(bs); !slices.Equal(got, []int{4, 1, 3, 0, 5}) {
		t.Error(got)
	}
	if got := sched.Order(nil); len(got) != 0 {
		t.Error(got)
	}
	if got := sched.Order(bs[2:3]); len(got) != 0 {
		t.Error(got)
	}
}

func TestP14_2Best(t *testing.T) {
	p := pod("p", 100, 0)
	bears := p
	bears.Bears = []api.Toleration{{Key: "a"}, {Key: "b"}}
	m, n, k := machine("m", 1000), machine("n", 1000), machine("k", 1000)
	for i, c := range []struct {
		ms   []api.Machine
		bs   []api.Bound
		p    api.Pod
		want string
	}{
		{nil, nil, p, ""},
		{[]api.Machine{machine("m", 50)}, nil, p, ""},
		{[]api.Machine{m, n}, nil, p, "m"},
		{[]api.Machine{n, m}, nil, p, "n"},
		{[]api.Machine{m, n}, []api.Bound{on(pod("a", 1, 0), "m")}, p, "n"},
		{[]api.Machine{m, n, k}, []api.Bound{on(pod("a", 200, 0), "m"), on(pod("b", 100, 0), "n"), on(pod("c", 100, 0), "k")}, p, "n"},
		{[]api.Machine{machine("m", 50), n}, nil, p, "n"},
		{[]api.Machine{m, machine("big", 4000)}, []api.Bound{on(pod("a", 100, 0), "m"), on(pod("b", 200, 0), "big")}, p, "big"},
		{[]api.Machine{prefer(m, "a"), n}, []api.Bound{on(pod("a", 500, 0), "n")}, p, "n"},
		{[]api.Machine{prefer(m, "a", "b"), prefer(n, "a")}, []api.Bound{on(pod("a", 500, 0), "n")}, p, "n"},
		{[]api.Machine{prefer(m, "a", "b"), n}, []api.Bound{on(pod("a", 500, 0), "n")}, bears, "m"},
		{[]api.Machine{prefer(m, "a"), machine("n", 50)}, nil, p, "m"},
		{[]api.Machine{m, n}, []api.Bound{on(pod("p", 900, 0), "m"), on(pod("a", 10, 0), "n")}, p, "m"},
		{[]api.Machine{m, n}, []api.Bound{on(pod("p", 900, 0), "")}, p, "m"},
		{[]api.Machine{m, n}, []api.Bound{on(api.Pod{Name: "a", Need: api.Res{Mem: 500, Pods: 1}}, "m"), on(pod("b", 400, 0), "n")}, p, "n"},
	} {
		if got := sched.Best(c.ms, c.bs, c.p); got != c.want {
			t.Errorf("%d: %q", i, got)
		}
	}
}

func TestP14_3Step(t *testing.T) {
	ms := []api.Machine{machine("m", 1000), machine("n", 1000)}
	bs := []api.Bound{on(pod("low", 600, 1), ""), on(pod("x", 100, 0), "m"), on(pod("big", 5000, 9), ""), on(pod("high", 900, 7), ""), on(pod("low2", 600, 1), "")}
	bs[0].Pod.Labels = []api.Label{{Key: "a", Val: "b"}}
	before := slices.Clone(bs)
	got, moves := sched.Step(ms, bs)
	want := slices.Clone(bs)
	want[3].On, want[0].On = "n", "m"
	if !reflect.DeepEqual(got, want) {
		t.Error(got)
	}
	if !slices.Equal(moves, []api.Move{{Pod: "high", To: "n"}, {Pod: "low", To: "m"}}) {
		t.Error(moves)
	}
	if !reflect.DeepEqual(bs, before) {
		t.Error("the argument was changed")
	}
	if got, moves := sched.Step(ms, nil); len(got) != 0 || len(moves) != 0 {
		t.Error(got, moves)
	}
	if got, moves := sched.Step(nil, bs[:1]); !reflect.DeepEqual(got, bs[:1]) || len(moves) != 0 {
		t.Error(got, moves)
	}
}

func TestP14_3StepSpreadsOverMachines(t *testing.T) {
	ms := []api.Machine{machine("m", 1000), machine("n", 1000)}
	got, moves := sched.Step(ms, []api.Bound{on(pod("a", 100, 0), ""), on(pod("b", 100, 0), ""), on(pod("c", 50, 0), ""), on(pod("d", 1, 0), "")})
	if got[0].On != "m" || got[1].On != "n" || got[2].On != "m" || got[3].On != "n" || len(moves) != 4 {
		t.Error(got, moves)
	}
	near := pod("a", 1, 0)
	near.Labels, near.Apart = []api.Label{{Key: "app", Val: "x"}}, []api.Label{{Key: "app", Val: "x"}}
	near2, near3 := near, near
	near2.Name, near3.Name = "b", "c"
	got, _ = sched.Step(ms, []api.Bound{on(near, ""), on(near2, ""), on(near3, "")})
	if got[0].On != "m" || got[1].On != "n" || got[2].On != "" {
		t.Error(got)
	}
}

func TestP14_4Properties(t *testing.T) {
	ms := []api.Machine{machine("m", 1000), machine("n", 700)}
	var bs []api.Bound
	for i := range 10 {
		bs = append(bs, on(pod("p"+string(rune('a'+i)), 100+i*50, i%3), ""))
	}
	next, moves := sched.Step(ms, bs)
	if !fit.Feasible(ms, next) || len(moves) == 0 {
		t.Error("not feasible", next)
	}
	for _, b := range next {
		if b.On == "" && len(fit.Where(ms, next, b.Pod)) > 0 {
			t.Error("can run and is pending", b.Pod.Name)
		}
	}
	if again, moves := sched.Step(ms, next); len(moves) != 0 || !reflect.DeepEqual(again, next) {
		t.Error("a second step", moves)
	}
}

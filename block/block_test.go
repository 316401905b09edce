package block_test

import (
	"reflect"
	"slices"
	"testing"

	"trireme/api"
	"trireme/block"
	"trireme/budget"
)

func machine(name, group string) api.Machine {
	return api.Machine{Name: name, Group: group, Has: api.Res{Cpu: 1000, Mem: 100, Pods: 10}, Ready: true}
}

func pod(name string, cpu int) api.Pod {
	return api.Pod{Name: name, Need: api.Res{Cpu: cpu, Pods: 1}, Owner: "o", Labels: []api.Label{{Key: "app", Val: "x"}}}
}

func on(p api.Pod, machine string) api.Bound { return api.Bound{Pod: p, On: machine} }

func with(p api.Pod, change func(*api.Pod)) api.Pod {
	change(&p)
	return p
}

func daemon(p *api.Pod)  { p.Daemon = true }
func pinned(p *api.Pod)  { p.Pinned = true }
func local(p *api.Pod)   { p.Local = true }
func unowned(p *api.Pod) { p.Owner = "" }

func TestP25_1Use(t *testing.T) {
	m := machine("m", "g")
	mem := pod("b", 100)
	mem.Need.Mem = 30
	bs := []api.Bound{on(pod("a", 100), "m"), on(with(mem, daemon), "m"), on(pod("c", 900), "n"), on(pod("d", 900), "")}
	if got := block.Use(m, bs); got != 300 {
		t.Error(got)
	}
	if got := block.Use(m, nil); got != 0 {
		t.Error(got)
	}
	over := []api.Bound{on(pod("a", api.MaxRes), "m"), on(pod("b", 1), "m")}
	if got := block.Use(m, over); got != 1000000 {
		t.Error(got)
	}
	if got := block.Use(m, []api.Bound{on(pod("a", 1500), "m")}); got != 1500 {
		t.Error(got)
	}
}

func TestP25_1Movable(t *testing.T) {
	a, b, c := pod("a", 1), with(pod("b", 1), pinned), with(pod("c", 1), unowned)
	bs := []api.Bound{on(c, "m"), on(with(pod("d", 1), daemon), "m"), on(a, "m"), on(pod("e", 1), "n"), on(pod("f", 1), ""), on(b, "m")}
	if got := block.Movable(bs, "m"); !reflect.DeepEqual(got, []api.Pod{c, a, b}) {
		t.Error(got)
	}
	if got := block.Movable(bs, "x"); len(got) != 0 {
		t.Error(got)
	}
	if got := block.Movable(bs[1:2], "m"); len(got) != 0 {
		t.Error(got)
	}
}

func TestP25_2Why(t *testing.T) {
	l := []api.Budget{{Name: "b", Match: []api.Label{{Key: "app", Val: "x"}}, Least: 1}}
	a, b, c := pod("a", 1), pod("b", 1), pod("c", 1)
	other := pod("z", 1)
	other.Labels = nil
	for i, x := range []struct {
		bs   []api.Bound
		name string
		e    api.Errno
	}{
		{nil, "", api.OK},
		{[]api.Bound{on(a, "m"), on(b, "n")}, "", api.OK},
		{[]api.Bound{on(a, "m"), on(b, "m"), on(c, "n")}, "", api.OK},
		{[]api.Bound{on(a, "m"), on(with(b, pinned), "m"), on(c, "n")}, "b", api.ErrState},
		{[]api.Bound{on(a, "m"), on(with(b, local), "m"), on(c, "n")}, "b", api.ErrState},
		{[]api.Bound{on(with(a, unowned), "m"), on(with(b, pinned), "m"), on(c, "n")}, "a", api.ErrState},
		{[]api.Bound{on(a, "m"), on(with(b, pinned), "n"), on(with(c, unowned), "")}, "", api.OK},
		{[]api.Bound{on(a, "m"), on(b, "m")}, "b", api.ErrMin},
		{[]api.Bound{on(other, "m"), on(a, "m")}, "a", api.ErrMin},
		{[]api.Bound{on(a, "m"), on(other, "m"), on(with(with(b, daemon), pinned), "m"), on(c, "")}, "", api.OK},
		{[]api.Bound{on(a, "m"), on(b, "m"), on(with(c, unowned), "m")}, "c", api.ErrState},
		{[]api.Bound{on(with(a, func(p *api.Pod) { daemon(p); unowned(p) }), "m")}, "", api.OK},
	} {
		before := slices.Clone(x.bs)
		if name, e := block.Why(x.bs, l, "m"); name != x.name || e != x.e {
			t.Error(i, name, e)
		}
		if !reflect.DeepEqual(before, x.bs) {
			t.Error(i, "the argument was changed")
		}
	}
	if name, e := block.Why([]api.Bound{on(a, "m")}, nil, "m"); name != "" || e != api.OK {
		t.Error("without budgets", name, e)
	}
}

func TestP25_3Idle(t *testing.T) {
	down := machine("down", "g")
	down.Ready = false
	ms := []api.Machine{machine("c", "g"), machine("alone", ""), down, machine("b", "h"), machine("a", "g")}
	bs := []api.Bound{on(pod("p", 300), "b"), on(with(pod("q", 500), daemon), "a")}
	for most, want := range map[int][]string{0: nil, 1: {"c"}, 300: {"c"}, 301: {"c", "b"}, 500: {"c", "b"}, 501: {"c", "b", "a"}, 1000000: {"c", "b", "a"}, -1: nil} {
		if got := block.Idle(ms, bs, most); !slices.Equal(got, want) {
			t.Error(most, got)
		}
	}
}

func TestP25_3Empty(t *testing.T) {
	down := machine("down", "g")
	down.Ready = false
	ms := []api.Machine{machine("c", "g"), machine("alone", ""), down, machine("b", "h"), machine("a", "g")}
	bs := []api.Bound{on(pod("p", 0), "b"), on(with(pod("q", 500), daemon), "a"), on(pod("r", 1), "")}
	if got := block.Empty(ms, bs); !slices.Equal(got, []string{"c", "down", "a"}) {
		t.Error(got)
	}
	if got := block.Empty(nil, bs); len(got) != 0 {
		t.Error(got)
	}
}

func TestP25_4Properties(t *testing.T) {
	l := []api.Budget{{Name: "b", Match: []api.Label{{Key: "app", Val: "x"}}, Least: 2}}
	ms := []api.Machine{machine("m", "g"), machine("n", "g"), machine("k", "g"), machine("e", "g")}
	bs := []api.Bound{on(pod("a", 1), "m"), on(pod("b", 1), "n"), on(pod("c", 1), "n"), on(with(pod("d", 1), daemon), "k"), on(with(pod("f", 1), daemon), "e")}
	for _, m := range ms {
		var names []string
		for _, p := range block.Movable(bs, m.Name) {
			names = append(names, p.Name)
		}
		if _, e := block.Why(bs, l, m.Name); (e == api.OK) != budget.All(l, bs, names) {
			t.Error(m.Name, e)
		}
	}
	for _, name := range block.Empty(ms, bs) {
		if _, e := block.Why(bs, l, name); e != api.OK {
			t.Error(name, e)
		}
	}
}

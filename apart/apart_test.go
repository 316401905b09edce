package apart_test

import (
	"slices"
	"testing"

	"trireme/apart"
	"trireme/api"
	"trireme/yard"
)

func machine(name string, zone ...string) api.Machine {
	m := api.Machine{Name: name, Has: api.Res{Cpu: 1000, Pods: 10}, Ready: true}
	for _, z := range zone {
		m.Labels = []api.Label{{Key: "app", Val: "x"}, {Key: yard.Zone, Val: z}}
	}
	return m
}

// pod returns a pod with the label app, and with an Apart of it if there is one.
func pod(name, app string, apart ...string) api.Pod {
	p := api.Pod{Name: name, Need: api.Res{Pods: 1}, Labels: []api.Label{{Key: "app", Val: app}, {Key: "b", Val: "c"}}}
	for _, s := range apart {
		p.Apart = []api.Label{{Key: "app", Val: s}}
	}
	return p
}

func wide(p api.Pod) api.Pod {
	p.Wide = true
	return p
}

func on(p api.Pod, machine string) api.Bound { return api.Bound{Pod: p, On: machine} }

var ms = []api.Machine{machine("a1", "a"), machine("a2", "a"), machine("b1", "b"), machine("n1"), machine("n2"), machine("e1", ""), machine("e2", "")}

func TestP11_1Near(t *testing.T) {
	x, y := pod("x", "x"), pod("y", "y")
	for i, c := range []struct {
		p    api.Pod
		q    api.Bound
		want string // the machines on which p is near q
	}{
		{pod("p", "y", "x"), on(x, "a1"), "a1"},
		{pod("p", "y", "x"), on(y, "a1"), ""},
		{pod("p", "y", "x"), on(x, ""), ""},
		{pod("x", "y", "x"), on(x, "a1"), ""},
		{pod("p", "y"), on(x, "a1"), ""},
		{pod("p", "y"), on(pod("q", "x", "y"), "a1"), "a1"},
		{pod("p", "y"), on(pod("q", "x", "z"), "a1"), ""},
		{pod("p", "y"), on(pod("q", "x", "y"), ""), ""},
		{pod("p", "y"), on(pod("p", "x", "y"), "a1"), ""},
		{wide(pod("p", "y", "x")), on(x, "a1"), "a1 a2"},
		{wide(pod("p", "y", "x")), on(x, "n1"), "n1"},
		{wide(pod("p", "y", "x")), on(x, "e2"), "e1 e2"},
		{wide(pod("p", "y", "x")), on(y, "a1"), ""},
		{pod("p", "y"), on(wide(pod("q", "x", "y")), "a2"), "a1 a2"},
		{pod("p", "y"), on(wide(pod("q", "x", "y")), "n1"), "n1"},
		{pod("p", "y", "x"), on(wide(pod("q", "x", "z")), "a1"), "a1"},
		{wide(pod("p", "y", "z")), on(pod("q", "x", "y"), "a1"), "a1"},
		{pod("p", "z", "z"), on(pod("q", "z", "z"), "b1"), "b1"},
	} {
		got := ""
		for _, m := range ms {
			near := apart.Near(ms, []api.Bound{on(y, "a1"), c.q}, c.p, m.Name)
			if near != apart.Near(ms, []api.Bound{c.q, on(pod("other", "o"), "b1")}, c.p, m.Name) {
				t.Error("other pods do not matter", i, m.Name)
			}
			if near {
				got += " " + m.Name
			}
			if near != (apart.Why(ms, []api.Bound{c.q}, c.p, m.Name) == api.TooNear) {
				t.Error("Why", i, m.Name)
			}
		}
		if got != c.want && got != " "+c.want {
			t.Errorf("%d: got %q, want %q", i, got, c.want)
		}
	}
}

func TestP11_1NearNeedsAllLabelsAndAMachine(t *testing.T) {
	p := pod("p", "y", "x")
	bs := []api.Bound{on(pod("x", "x"), "a1")}
	if apart.Near(ms, bs, p, "none") || apart.Near(nil, nil, p, "") || apart.Near(ms, append(bs, on(pod("z", "x"), "")), p, "") {
		t.Error("there is no such machine")
	}
	p.Apart = []api.Label{{Key: "app", Val: "x"}, {Key: "b", Val: "c"}}
	if !apart.Near(ms, bs, p, "a1") {
		t.Error("both labels")
	}
	p.Apart[1].Val = "d"
	if apart.Near(ms, bs, p, "a1") {
		t.Error("one of two labels")
	}
}

// spread returns a pod that is to be spread with the pods that have the label app=x.
func spread(app string, skew int) api.Pod {
	p := pod("p", app)
	p.Spread, p.Skew = []api.Label{{Key: "app", Val: "x"}}, skew
	return p
}

func unready(m api.Machine) api.Machine {
	m.Ready = false
	return m
}

func TestP11_2Counts(t *testing.T) {
	ms := []api.Machine{unready(machine("c1", "c")), machine("b1", "b"), machine("n"), machine("a1", "a"), unready(machine("a2", "a")), machine("e", "")}
	bs := []api.Bound{
		on(pod("1", "x"), "a1"), on(pod("2", "x"), "a2"), on(pod("3", "y"), "a1"), on(pod("4", "x"), ""), on(pod("5", "x"), "n"), on(pod("6", "x"), "c1"), on(pod("p", "x"), "b1"), on(pod("7", "x"), "e"),
	}
	if z, n := apart.Counts(ms, bs, spread("x", 1)); !slices.Equal(z, []string{"b", "a", ""}) || !slices.Equal(n, []int{0, 2, 1}) {
		t.Errorf("%q %v", z, n)
	}
	if z, n := apart.Counts(ms, bs, pod("p", "x")); !slices.Equal(z, []string{"b", "a", ""}) || !slices.Equal(n, []int{0, 3, 1}) {
		t.Errorf("every pod has all labels of none: %q %v", z, n)
	}
	if z, n := apart.Counts(nil, nil, spread("x", 1)); len(z) != 0 || len(n) != 0 {
		t.Error(z, n)
	}
}

func TestP11_2Many(t *testing.T) {
	ms := []api.Machine{machine("a1", "a"), machine("a2", "a"), machine("b1", "b"), unready(machine("c1", "c")), machine("n"), unready(machine("b2", "b"))}
	two := []api.Bound{on(pod("1", "x"), "a1"), on(pod("2", "x"), "a2")}
	for i, c := range []struct {
		bs   []api.Bound
		p    api.Pod
		on   string
		want bool
	}{
		{nil, spread("x", 1), "a1", false},
		{two[:1], spread("x", 1), "a1", true},
		{two[:1], spread("x", 1), "a2", true},
		{two[:1], spread("x", 1), "b1", false},
		{two[:1], spread("x", 2), "a1", false},
		{two, spread("x", 2), "a1", true},
		{two, spread("x", 2), "b1", false},
		{two, spread("y", 2), "a1", false},
		{two, spread("y", 1), "a1", true},
		{append(two[:2:2], on(pod("3", "x"), "b2")), spread("x", 2), "a1", false},
		{append(two[:2:2], on(pod("3", "x"), "b2")), spread("x", 1), "a1", true},
		{append(two[:2:2], on(pod("3", "y"), "b1")), spread("x", 2), "a1", true},
		{append(two[:2:2], on(pod("3", "x"), "")), spread("x", 2), "a1", true},
		{[]api.Bound{on(pod("p", "x"), "a1")}, spread("x", 1), "a1", false},
		{nil, spread("x", 100), "c1", true},
		{nil, spread("x", 100), "n", true},
		{nil, spread("y", 100), "n", true},
		{nil, spread("x", 1), "none", false},
		{nil, spread("x", 1), "", false},
		{nil, pod("p", "x"), "n", false},
		{two, pod("p", "x"), "a1", false},
	} {
		if got := apart.Many(ms, c.bs, c.p, c.on); got != c.want {
			t.Error(i, got)
		}
		want := api.FitOk
		if c.want {
			want = api.TooMany
		}
		if got := apart.Why(ms, c.bs, c.p, c.on); got != want {
			t.Error("Why", i, got)
		}
	}
}

func TestP11_2TheSmallestOfAllZones(t *testing.T) {
	ms := []api.Machine{machine("a", "a"), machine("b", "b"), machine("c", "c")}
	bs := []api.Bound{on(pod("1", "x"), "a"), on(pod("2", "x"), "b"), on(pod("3", "x"), "b")}
	for name, want := range map[string]bool{"a": true, "b": true, "c": false} {
		if got := apart.Many(ms, bs, spread("x", 1), name); got != want {
			t.Error(name, got)
		}
	}
}

func TestP11_3WhyPutsNearFirst(t *testing.T) {
	p := spread("x", 1)
	p.Apart = []api.Label{{Key: "app", Val: "x"}}
	bs := []api.Bound{on(pod("1", "x"), "a1"), on(pod("2", "x"), "a1")}
	for name, want := range map[string]int{"a1": api.TooNear, "a2": api.TooMany, "b1": api.FitOk, "none": api.FitOk} {
		if got := apart.Why(ms, bs, p, name); got != want {
			t.Error(name, got)
		}
	}
}

func TestP11_4Properties(t *testing.T) {
	pods := []api.Pod{pod("p", "x", "y"), pod("p", "y"), wide(pod("p", "x", "x")), wide(pod("p", "y", "x")), pod("p", "x"), pod("p", "x", "x")}
	for _, p := range pods {
		for _, q := range pods {
			q.Name = "q"
			for _, a := range ms {
				for _, b := range ms {
					if apart.Near(ms, []api.Bound{on(q, b.Name)}, p, a.Name) != apart.Near(ms, []api.Bound{on(p, a.Name)}, q, b.Name) {
						t.Error("not symmetric", p, a.Name, q, b.Name)
					}
				}
				if len(p.Apart)+len(q.Apart) == 0 && apart.Why(ms, []api.Bound{on(q, a.Name)}, p, a.Name) != api.FitOk {
					t.Error("without constraints", p, q)
				}
			}
		}
	}
}

package health_test

import (
	"math"
	"reflect"
	"slices"
	"testing"

	"trireme/api"
	"trireme/health"
)

func machine(group string, ready bool) api.Machine { return api.Machine{Group: group, Ready: ready} }

func inst(name string, state, since int) api.Inst {
	return api.Inst{Name: name, Group: "g", State: state, Since: since}
}

func names(l []api.Inst) string {
	s := ""
	for _, x := range l {
		s += x.Name
	}
	return s
}

func TestP29_1Share(t *testing.T) {
	up, down, alone := machine("g", true), machine("h", false), machine("", false)
	for i, c := range []struct {
		ms   []api.Machine
		want int
	}{
		{nil, 0}, {[]api.Machine{alone, machine("", true)}, 0}, {[]api.Machine{up, down, up}, 333}, {[]api.Machine{down, up, alone, down}, 666},
		{[]api.Machine{down, down}, 1000}, {[]api.Machine{up, up, up}, 0}, {[]api.Machine{up, alone, down, alone}, 500},
	} {
		if got := health.Share(c.ms); got != c.want {
			t.Error(i, got)
		}
	}
}

func TestP29_2LateAndComing(t *testing.T) {
	l := []api.Inst{
		inst("a", api.Creating, 4), inst("b", api.Failed, 9), inst("c", api.Running, 5), inst("d", api.Leaving, 0), inst("e", api.Running, 4),
		inst("f", api.Creating, 5), inst("g", api.Failed, 0), inst("h", 0, 0), inst("i", 5, 0), inst("j", api.Creating, 10),
	}
	for _, c := range []struct {
		now, limit   int
		late, coming string
	}{
		{10, 5, "abeg", "cfj"}, {10, 6, "bg", "acefj"}, {10, 0, "abcefg", "j"}, {11, 0, "abcefgj", ""}, {0, 5, "bg", "acefj"}, {10, -1, "abcefgj", ""},
		{0, math.MaxInt, "bg", "acefj"}, {-5, math.MaxInt, "bg", "acefj"}, {0, math.MinInt, "abcefgj", ""}, {5, math.MinInt, "abcefgj", ""}, {math.MinInt, 5, "bg", "acefj"},
		{math.MaxInt, -5, "abcefgj", ""},
	} {
		if got := names(health.Late(l, c.now, c.limit)); got != c.late {
			t.Error("late", c.now, c.limit, got)
		}
		if got := names(health.Coming(l, c.now, c.limit)); got != c.coming {
			t.Error("coming", c.now, c.limit, got)
		}
	}
	if got := health.Late(l, 10, 5); got[0] != l[0] {
		t.Error("the instances are unchanged", got)
	}
	if len(health.Late(nil, 1, 1))+len(health.Coming(nil, 1, 1)) != 0 {
		t.Error("no instances")
	}
}

func TestP29_3Guests(t *testing.T) {
	of := func(name string, cpu int) api.Group {
		return api.Group{Name: name, Max: 5, Like: api.Machine{Group: name, Has: api.Res{Cpu: cpu, Pods: 5}, Ready: true, Labels: []api.Label{{Key: "a", Val: "b"}}}}
	}
	gs := []api.Group{of("g", 1), of("h", 2)}
	l := []api.Inst{
		{Name: "h-3", Group: "h", State: api.Creating}, {Name: "g-1", Group: "g", State: api.Running}, {Name: "x-1", Group: "x"}, {Name: "h-4", Group: "g"},
		{Name: "g-07", Group: "g"}, {Name: "g-2", Group: "g", State: api.Leaving}, {Name: "g-0", Group: "g"},
	}
	numbered := func(g api.Group, name string) api.Machine {
		m := g.Like
		m.Name = name
		return m
	}
	got := health.Guests(gs, l)
	if !reflect.DeepEqual(got, []api.Machine{numbered(gs[1], "h-3"), numbered(gs[0], "g-1"), numbered(gs[0], "g-2")}) {
		t.Error(got)
	}
	got[1].Labels[0].Val = "changed"
	if gs[0].Like.Labels[0].Val != "b" || got[2].Labels[0].Val != "b" {
		t.Error("the machines share memory")
	}
	if len(health.Guests(nil, l))+len(health.Guests(gs, nil)) != 0 {
		t.Error("no groups or no instances")
	}
}

func TestP29_3Size(t *testing.T) {
	l := []api.Inst{inst("a", api.Creating, 0), inst("b", api.Leaving, 0), inst("c", api.Failed, 0), inst("d", api.Running, 0), {Name: "e", Group: "h", State: api.Running}}
	for name, want := range map[string]int{"g": 3, "h": 1, "x": 0, "": 0} {
		if got := health.Size(l, name); got != want {
			t.Error(name, got)
		}
	}
}

func TestP29_4Properties(t *testing.T) {
	var l []api.Inst
	for i := range 40 {
		l = append(l, inst(string(rune('A'+i)), i%4+1, i/2))
	}
	for now := range 25 {
		for limit := range 12 {
			late, coming := health.Late(l, now, limit), health.Coming(l, now, limit)
			for _, x := range l {
				n := 0
				for _, y := range slices.Concat(late, coming) {
					if x.Name == y.Name {
						n++
					}
				}
				if (n == 1) != (x.State != api.Leaving) || n > 1 {
					t.Error(now, limit, x, n)
				}
			}
		}
	}
}

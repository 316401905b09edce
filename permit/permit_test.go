package permit_test

import (
	"math"
	"reflect"
	"testing"

	"trireme/api"
	"trireme/cloud"
	"trireme/permit"
)

func of(name string, min, max int) api.Group {
	return api.Group{Name: name, Min: min, Max: max, Like: api.Machine{Group: name, Has: api.Res{Cpu: 1000, Mem: 10, Pods: 5}, Ready: true, Labels: []api.Label{{Key: "a", Val: "b"}}}}
}

func inst(group, name string, state int) api.Inst {
	return api.Inst{Name: name, Group: group, State: state}
}

// state has the group g with Min 1, Max 6 and target 5, and h with Min 1, Max 3 and target 1.
func state() permit.State {
	return permit.State{
		Groups: []api.Group{of("g", 1, 6), of("h", 1, 3)}, Targets: []int{5, 1},
		Insts: []api.Inst{inst("g", "g-1", api.Running), inst("g", "g-2", api.Creating), inst("g", "g-3", api.Failed), inst("g", "g-4", api.Leaving), inst("h", "h-1", api.Running),
			inst("x", "x-1", api.Running), inst("g", "g-9", 0), inst("g", "g-10", 5)},
		Share: 500, Unready: 500,
	}
}

func call(what, name string, n int) permit.Call { return permit.Call{What: what, Name: name, N: n} }

func TestP33_1Of(t *testing.T) {
	gs := []api.Group{of("g", 1, 3), of("h", 0, 2)}
	c, _ := cloud.New(gs, 2)
	c.Increase("h", 1)
	rests := []string{"h"}
	s, e := permit.Of(gs, c, api.Caps{Cpu: 5}, rests, 3, 4)
	want := permit.State{Groups: []api.Group{of("g", 1, 3), of("h", 0, 2)}, Targets: []int{1, 1}, Insts: c.Insts(), Caps: api.Caps{Cpu: 5}, Rests: []string{"h"}, Unready: 3, Share: 4}
	if !reflect.DeepEqual(s, want) || e != api.OK {
		t.Error(s, e)
	}
	gs[0].Like.Labels[0].Val, gs[1].Name, rests[0] = "changed", "changed", "changed"
	if !reflect.DeepEqual(s, want) {
		t.Error("the state shares memory", s)
	}
	if s, e := permit.Of(nil, c.Copy(), api.Caps{}, nil, 0, 0); len(s.Targets) != 0 || len(s.Insts) != 2 || e != api.OK {
		t.Error(s, e)
	}
	for i, x := range []struct {
		gs   []api.Group
		c    *cloud.Cloud
		want api.Errno
	}{{[]api.Group{of("g", 2, 1)}, nil, api.ErrForm}, {[]api.Group{of("g", 2, 1)}, c, api.ErrForm}, {nil, nil, api.ErrNil}, {nil, &cloud.Cloud{}, api.ErrNil}} {
		if s, e := permit.Of(x.gs, x.c, api.Caps{Cpu: 1}, []string{"h"}, 1, 1); !reflect.DeepEqual(s, permit.State{}) || e != x.want {
			t.Error(i, s, e)
		}
	}
}

type rule struct {
	c    permit.Call
	want api.Errno
}

func check(t *testing.T, s permit.State, rules ...rule) {
	t.Helper()
	for _, r := range rules {
		if got := permit.Why(s, r.c); got != r.want {
			t.Errorf("%v: got %d, want %d", r.c, got, r.want)
		}
	}
}

func TestP33_2WhyOfGroups(t *testing.T) {
	s := state()
	for _, what := range []string{"", "x", "Up", "down"} {
		check(t, s, rule{call(what, "none", 0), api.ErrKind})
	}
	for _, what := range []string{"up", "raise"} {
		check(t, s,
			rule{call(what, "none", 0), api.ErrNone}, rule{call(what, "g", 0), api.ErrArg}, rule{call(what, "g", math.MinInt), api.ErrArg},
			rule{call(what, "g", 1), api.OK}, rule{call(what, "g", 2), api.ErrMax}, rule{call(what, "g", math.MaxInt), api.ErrMax}, rule{call(what, "h", 2), api.OK}, rule{call(what, "h", 3), api.ErrMax})
		bad := state()
		bad.Unready, bad.Rests = 501, []string{"z", "g"}
		check(t, bad, rule{call(what, "none", 0), api.ErrNone}, rule{call(what, "g", 0), api.ErrArg}, rule{call(what, "g", 9), api.ErrState}, rule{call(what, "h", 1), api.ErrState})
		bad.Unready = 500
		check(t, bad, rule{call(what, "g", 9), api.ErrBack}, rule{call(what, "g", 1), api.ErrBack}, rule{call(what, "h", 1), api.OK})
	}
	fix := state()
	fix.Unready, fix.Rests, fix.Caps = 1000, []string{"g"}, api.Caps{Nodes: 1}
	fix.Insts = fix.Insts[:5]
	check(t, fix,
		rule{call("fix", "none", 0), api.ErrNone}, rule{call("fix", "g", 0), api.ErrArg}, rule{call("fix", "g", 2), api.OK}, rule{call("fix", "g", 3), api.ErrMin},
		rule{call("fix", "h", 1), api.ErrMin}, rule{call("fix", "g", math.MaxInt), api.ErrMin})
	fix.Insts = nil
	check(t, fix, rule{call("fix", "g", 4), api.OK}, rule{call("fix", "g", 5), api.ErrMin})
}

func TestP33_2WhyOfCaps(t *testing.T) {
	// Six instances count: three of g that are not leaving, two of g in unknown states, and h-1.
	for _, x := range []struct {
		c    api.Caps
		want api.Errno
	}{
		{api.Caps{}, api.OK}, {api.Caps{Nodes: 7, Cpu: 7000, Mem: 70}, api.OK}, {api.Caps{Nodes: 6}, api.ErrCap}, {api.Caps{Cpu: 6999}, api.ErrCap}, {api.Caps{Mem: 69}, api.ErrCap},
		{api.Caps{Nodes: 1}, api.ErrCap}, {api.Caps{Cpu: 1}, api.ErrCap},
	} {
		s := state()
		s.Caps = x.c
		check(t, s, rule{call("up", "g", 1), x.want}, rule{call("raise", "g", 1), api.OK}, rule{call("up", "g", 2), api.ErrMax})
	}
	s := state()
	s.Caps = api.Caps{Cpu: 8000}
	s.Groups[1].Like.Has.Cpu = 500
	check(t, s, rule{call("up", "h", 2), api.OK})
	s.Caps.Cpu = 6499
	check(t, s, rule{call("up", "h", 2), api.ErrCap}, rule{call("up", "h", 1), api.OK})
}

func TestP33_2WhyOfInstances(t *testing.T) {
	for name, want := range map[string][2]api.Errno{ // clean, delete
		"none": {api.ErrNone, api.ErrNone}, "x-1": {api.ErrNone, api.ErrNone}, "g-4": {api.ErrTwice, api.ErrTwice}, "g-1": {api.OK, api.OK}, "g-2": {api.OK, api.ErrState},
		"g-3": {api.OK, api.ErrState}, "h-1": {api.OK, api.ErrMin}, "g-9": {api.ErrState, api.ErrState}, "g-10": {api.ErrState, api.ErrState},
	} {
		for _, n := range []int{0, -5, math.MaxInt} {
			check(t, state(), rule{call("clean", name, n), want[0]}, rule{call("delete", name, n), want[1]})
		}
		s := state()
		s.Unready, s.Rests, s.Caps = 501, []string{"g", "h"}, api.Caps{Nodes: 1}
		if want[1] == api.OK || want[1] == api.ErrMin {
			want[1] = api.ErrState
		}
		check(t, s, rule{call("clean", name, 0), want[0]}, rule{call("delete", name, 0), want[1]})
	}
}

func TestP33_3After(t *testing.T) {
	for _, x := range []struct {
		c       permit.Call
		targets []int
		leaving int // the index of the instance that leaves, or -1
	}{
		{call("up", "g", 1), []int{6, 1}, -1}, {call("raise", "h", 2), []int{5, 3}, -1}, {call("clean", "g-3", 7), []int{4, 1}, 2}, {call("delete", "g-1", 0), []int{4, 1}, 0}, {call("clean", "h-1", 0), []int{5, 1}, 4},
	} {
		s := state()
		got, e := permit.After(s, x.c)
		want := state()
		want.Targets = x.targets
		if x.leaving >= 0 {
			want.Insts[x.leaving].State = api.Leaving
			got.Insts[x.leaving].Left = 0
		}
		if !reflect.DeepEqual(got, want) || e != api.OK {
			t.Error(x.c, got, e)
		}
		if !reflect.DeepEqual(s, state()) {
			t.Error("the argument was changed", x.c)
		}
		got.Targets[0], got.Insts[0].Name, got.Groups[0].Like.Labels[0].Val = 99, "z", "z"
		if !reflect.DeepEqual(s, state()) {
			t.Error("the states share memory", x.c)
		}
	}
	s := state()
	s.Insts = s.Insts[:5]
	if got, e := permit.After(s, call("fix", "g", 2)); e != api.OK || got.Targets[0] != 3 || !reflect.DeepEqual(got.Insts, s.Insts) {
		t.Error(got, e)
	}
	for _, r := range []rule{{call("up", "g", 2), api.ErrMax}, {call("x", "g", 1), api.ErrKind}, {call("delete", "h-1", 0), api.ErrMin}} {
		if got, e := permit.After(state(), r.c); !reflect.DeepEqual(got, permit.State{}) || e != r.want {
			t.Error(r.c, got, e)
		}
	}
}

func TestP33_3All(t *testing.T) {
	up, clean, del := call("up", "g", 1), call("clean", "g-3", 0), call("delete", "g-1", 0)
	for i, x := range []struct {
		l    []permit.Call
		want int
	}{
		{nil, -1}, {[]permit.Call{up}, -1}, {[]permit.Call{up, up}, 1}, {[]permit.Call{up, clean, up}, -1}, {[]permit.Call{up, clean, up, up}, 3}, {[]permit.Call{clean, clean}, 1},
		{[]permit.Call{del, up, del}, 2}, {[]permit.Call{{}}, 0}, {[]permit.Call{call("up", "h", 2), call("delete", "h-1", 0), call("up", "h", 1), call("up", "h", 1)}, 3},
	} {
		if got := permit.All(state(), x.l); got != x.want {
			t.Error(i, got)
		}
	}
}

func TestArgumentsThatAreNotSpecifiedDoNotPanic(t *testing.T) {
	for _, targets := range [][]int{nil, {math.MinInt}, {math.MaxInt, math.MaxInt}, {math.MinInt, math.MinInt}} {
		for _, what := range []string{"up", "raise", "fix", "clean", "delete"} {
			for _, n := range []int{1, 1 << 40, math.MaxInt} {
				s := state()
				s.Targets, s.Caps = targets, api.Caps{Cpu: 1 << 58, Mem: 5}
				for _, name := range []string{"g", "g-1", "h-1"} {
					permit.After(s, call(what, name, n))
				}
			}
		}
	}
	s := state()
	s.Targets = []int{-1 << 50, 0}
	check(t, s, rule{call("up", "g", 1<<50+6), api.OK}, rule{call("up", "g", 1<<50+7), api.ErrMax}, rule{call("fix", "g", math.MaxInt), api.ErrMin})
	s.Caps.Cpu = 1 << 58
	check(t, s, rule{call("up", "g", 1<<49), api.ErrCap}, rule{call("up", "g", 1<<40), api.OK})
}

func TestP33_4Properties(t *testing.T) {
	gs := []api.Group{of("g", 1, 4), of("h", 0, 3)}
	c, _ := cloud.New(gs, 2)
	permitted, seed := 0, 1
	chance := func(n int) int {
		seed = (1103515245*seed + 12345) % (1 << 31)
		return (seed >> 8) % n
	}
	for i := range 600 {
		names := []string{"g", "h"}
		for _, x := range c.Insts() {
			names = append(names, x.Name)
		}
		x := call([]string{"up", "raise", "fix", "clean", "delete"}[chance(5)], names[chance(len(names))], chance(3)+1)
		if chance(5) == 0 {
			c.Fail(names[chance(len(names))])
		}
		s, _ := permit.Of(gs, c, api.Caps{}, nil, 0, 0)
		next, e := permit.After(s, x)
		if e == api.OK {
			permitted++
			for k, target := range next.Targets {
				if target < gs[k].Min || target > gs[k].Max {
					t.Error("target", target)
				}
			}
			accept(t, c, s, x)
		}
		if i%4 == 0 {
			c.Tick()
		}
	}
	if permitted < 50 {
		t.Error("hardly a call was permitted", permitted)
	}
}

// accept checks that the provider accepts a permitted call.
func accept(t *testing.T, c *cloud.Cloud, s permit.State, x permit.Call) {
	t.Helper()
	e := api.OK
	switch x.What {
	case "up", "raise":
		e = c.Increase(x.Name, x.N)
	case "fix":
		e = c.Decrease(x.Name, x.N)
	default:
		e = c.Delete(x.Name)
		if e == api.ErrMin && x.What == "clean" {
			e = api.OK
		}
	}
	if e != api.OK {
		t.Error(x, e, s.Targets, s.Insts)
	}
}

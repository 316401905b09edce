package yard_test

import (
	"math"
	"reflect"
	"slices"
	"strconv"
	"testing"

	"trireme/api"
	"trireme/yard"
)

func pod(name string, cpu int) api.Pod {
	return api.Pod{Name: name, Need: api.Res{Cpu: cpu, Pods: 1}}
}

func machine(name string, cpu int) api.Machine {
	return api.Machine{Name: name, Has: api.Res{Cpu: cpu, Pods: 10}, Ready: true}
}

func inZone(m api.Machine, zone string) api.Machine {
	m.Labels = []api.Label{{Key: "a", Val: "b"}, {Key: yard.Zone, Val: zone}}
	return m
}

func yardOf(machines, pods int) ([]api.Machine, []api.Bound) {
	var ms []api.Machine
	var bs []api.Bound
	for i := range machines {
		ms = append(ms, machine("m"+strconv.Itoa(i), 100))
	}
	for i := range pods {
		bs = append(bs, api.Bound{Pod: pod("p"+strconv.Itoa(i), 1)})
	}
	return ms, bs
}

func TestP9_1Check(t *testing.T) {
	ms, bs := yardOf(200, 400)
	if e := yard.Check(ms, bs); e != api.OK {
		t.Error("at the limits", e)
	}
	if e := yard.Check(nil, nil); e != api.OK {
		t.Error("an empty yard", e)
	}
	m, n := machine("m", 1), machine("n", 1)
	on := func(p api.Pod, on string) api.Bound { return api.Bound{Pod: p, On: on} }
	p, q := pod("p", 1), pod("q", 1)
	many, pods := yardOf(201, 401)
	bad := api.Machine{Name: "a b"}
	for i, c := range []struct {
		ms   []api.Machine
		bs   []api.Bound
		want api.Errno
	}{
		{[]api.Machine{m, n}, []api.Bound{on(p, "m"), on(q, "")}, api.OK},
		{[]api.Machine{m}, []api.Bound{on(pod("m", 1), "m")}, api.OK},
		{[]api.Machine{m}, []api.Bound{on(pod("p", 5), "m")}, api.OK},
		{many, nil, api.ErrBig},
		{nil, pods, api.ErrBig},
		{append(many, bad), nil, api.ErrBig},
		{[]api.Machine{m, {}}, nil, api.ErrForm},
		{[]api.Machine{m, m, bad}, nil, api.ErrForm},
		{[]api.Machine{m, m}, []api.Bound{{}}, api.ErrForm},
		{[]api.Machine{m}, []api.Bound{on(api.Pod{Name: "p"}, "m")}, api.ErrForm},
		{[]api.Machine{m, n, m}, []api.Bound{on(p, "x")}, api.ErrTwice},
		{[]api.Machine{m, n}, []api.Bound{on(p, "m"), on(q, "x"), on(p, "n")}, api.ErrTwice},
		{[]api.Machine{m, n}, []api.Bound{on(p, "m"), on(q, "x")}, api.ErrNone},
		{nil, []api.Bound{on(p, "m")}, api.ErrNone},
	} {
		if e := yard.Check(c.ms, c.bs); e != c.want {
			t.Error(i, e)
		}
	}
}

func TestP9_2FindAndPlace(t *testing.T) {
	ms := []api.Machine{machine("a", 1), machine("b", 1), machine("b", 2), {}}
	bs := []api.Bound{{Pod: pod("b", 1), On: "a"}, {Pod: pod("a", 1)}, {Pod: pod("a", 2)}}
	for name, want := range map[string]int{"a": 0, "b": 1, "": 3, "c": -1} {
		if got := yard.Find(ms, name); got != want {
			t.Error("Find", name, got)
		}
	}
	for name, want := range map[string]int{"b": 0, "a": 1, "": -1, "c": -1} {
		if got := yard.Place(bs, name); got != want {
			t.Error("Place", name, got)
		}
	}
	if yard.Find(nil, "") != -1 || yard.Place(nil, "") != -1 {
		t.Error("an empty yard")
	}
}

func TestP9_2On(t *testing.T) {
	bs := []api.Bound{{Pod: pod("a", 1), On: "m"}, {Pod: pod("b", 2)}, {Pod: pod("c", 3), On: "n"}, {Pod: pod("d", 4), On: "m"}}
	for name, want := range map[string][]api.Pod{"m": {bs[0].Pod, bs[3].Pod}, "n": {bs[2].Pod}, "": {bs[1].Pod}, "x": nil} {
		if got := yard.On(bs, name); len(got)+len(want) > 0 && !reflect.DeepEqual(got, want) {
			t.Error(name, got)
		}
	}
}

func TestP9_2Used(t *testing.T) {
	bs := []api.Bound{
		{Pod: api.Pod{Need: api.Res{Cpu: 1, Mem: 2, Disk: 3, Pods: 4, Dev: 5}}, On: "m"}, {Pod: pod("b", 7), On: "m"}, {Pod: pod("c", 9)},
		{Pod: pod("d", api.MaxRes), On: "full"}, {Pod: pod("e", 0), On: "full"},
		{Pod: pod("f", api.MaxRes), On: "over"}, {Pod: pod("g", 1), On: "over"},
		{Pod: pod("h", -1), On: "bad"},
		{Pod: pod("i", api.MaxRes), On: "both"}, {Pod: pod("j", 1), On: "both"}, {Pod: pod("k", math.MaxInt), On: "both"},
	}
	for name, want := range map[string]api.Res{"m": {Cpu: 8, Mem: 2, Disk: 3, Pods: 5, Dev: 5}, "": {Cpu: 9, Pods: 1}, "full": {Cpu: api.MaxRes, Pods: 2}, "x": {}} {
		if r, e := yard.Used(bs, name); r != want || e != api.OK {
			t.Error(name, r, e)
		}
	}
	for name, want := range map[string]api.Errno{"over": api.ErrOver, "bad": api.ErrForm, "both": api.ErrForm} {
		if r, e := yard.Used(bs, name); r != (api.Res{}) || e != want {
			t.Error(name, r, e)
		}
	}
}

func TestP9_2Left(t *testing.T) {
	m := api.Machine{Name: "m", Has: api.Res{Cpu: 1000, Mem: 10, Disk: 10, Pods: 3, Dev: 1}}
	a := api.Bound{Pod: api.Pod{Need: api.Res{Cpu: 300, Mem: 11, Disk: 10, Pods: 1, Dev: 0}}, On: "m"}
	if r := yard.Left(m, []api.Bound{a, {Pod: pod("b", 200), On: "n"}}); r != (api.Res{Cpu: 700, Pods: 2, Dev: 1}) {
		t.Error(r)
	}
	if r := yard.Left(m, nil); r != m.Has {
		t.Error(r)
	}
	for _, bad := range [][]api.Bound{{{Pod: pod("a", -1), On: "m"}}, {{Pod: pod("a", api.MaxRes), On: "m"}, {Pod: pod("b", 1), On: "m"}}} {
		if r := yard.Left(m, bad); r != (api.Res{}) {
			t.Error(r)
		}
	}
	m.Has.Dev = -1
	if r := yard.Left(m, nil); r != (api.Res{}) {
		t.Error("Has is not valid", r)
	}
}

func TestP9_2Zones(t *testing.T) {
	down := inZone(machine("d", 1), "down")
	down.Ready = false
	late := inZone(machine("e", 1), "c")
	late.Ready = false
	ms := []api.Machine{late, inZone(machine("a", 1), "b"), machine("x", 1), inZone(machine("b", 1), "a"), down, inZone(machine("c", 1), "b"), inZone(machine("f", 1), ""), inZone(machine("g", 1), "c")}
	if got := yard.Zones(ms); !slices.Equal(got, []string{"b", "a", "", "c"}) {
		t.Errorf("%q", got)
	}
	if got := yard.Zones([]api.Machine{machine("a", 1), down}); len(got) != 0 {
		t.Error(got)
	}
}

func TestP9_3LeftAndUsedAddUp(t *testing.T) {
	m := machine("m", 1000)
	bs := []api.Bound{{Pod: pod("a", 300), On: "m"}, {Pod: pod("b", 700), On: "m"}, {Pod: pod("c", 700), On: "n"}}
	for n := range 4 {
		used, e := yard.Used(bs[:n], "m")
		left := yard.Left(m, bs[:n])
		if e != api.OK || left.Cpu+used.Cpu != 1000 || left.Pods+used.Pods != 10 {
			t.Error(n, used, left)
		}
	}
}

package world_test

import (
	"reflect"
	"slices"
	"strconv"
	"strings"
	"testing"

	"trireme/api"
	"trireme/cloud"
	"trireme/world"
	"trireme/yard"
)

func of(name string, min, max int) api.Group {
	return api.Group{Name: name, Min: min, Max: max, Like: api.Machine{Group: name, Has: api.Res{Cpu: 1000, Pods: 10}, Ready: true, Labels: []api.Label{{Key: "group", Val: name}}}}
}

func numbered(group string, n int) api.Machine {
	m := of(group, 0, 1).Like
	m.Name = group + "-" + strconv.Itoa(n)
	return m
}

func pod(name string, cpu int) api.Pod {
	return api.Pod{Name: name, Need: api.Res{Cpu: cpu, Pods: 1}, Labels: []api.Label{{Key: "app", Val: "x"}}}
}

func fresh(t *testing.T, delay int, b []api.Budget, l ...api.Group) *world.World {
	t.Helper()
	w, e := world.New(l, b, delay)
	if e != api.OK {
		t.Fatal(e)
	}
	return w
}

func want(t *testing.T, got, want api.Errno) {
	t.Helper()
	if got != want {
		t.Errorf("got %d, want %d", got, want)
	}
}

// shape checks the names of the machines, and the bound pods as "pod machine" or "pod", and that the yard is valid.
func shape(t *testing.T, w *world.World, machines string, pods ...string) {
	t.Helper()
	var ms, bs []string
	for _, m := range w.Machines() {
		ms = append(ms, m.Name)
	}
	for _, b := range w.Bounds() {
		bs = append(bs, strings.TrimSpace(b.Pod.Name+" "+b.On))
	}
	if strings.Join(ms, " ") != machines {
		t.Errorf("machines %q, want %q", ms, machines)
	}
	if !slices.Equal(bs, pods) {
		t.Errorf("pods %q, want %q", bs, pods)
	}
	if e := yard.Check(w.Machines(), w.Bounds()); e != api.OK {
		t.Error("the yard is not valid", e)
	}
}

func TestNoObject(t *testing.T) {
	c, _ := cloud.New([]api.Group{of("g", 1, 2)}, 1)
	for _, w := range []*world.World{nil, {}, {Cloud: c}} {
		for _, e := range []api.Errno{
			w.AddPod(pod("p", 1)), w.AddPod(api.Pod{}), w.DropPod("p"), w.Ready("g-1", true), w.Hold("g-1", true), w.Taint("g-1", api.Taint{}), w.Untaint("g-1", "a"), w.Evict("p"),
		} {
			want(t, e, api.ErrNil)
		}
		w.Pass()
		if w.Machines() != nil || w.Bounds() != nil || w.Budgets() != nil || w.Missing() != nil {
			t.Error("a result of an object that is none")
		}
	}
	if c.Now() != 0 {
		t.Error("Pass does nothing")
	}
}

func TestP18_1New(t *testing.T) {
	budgets := []api.Budget{{Name: "b", Match: []api.Label{{Key: "app", Val: "x"}}, Least: 1}}
	w := fresh(t, 1, budgets, of("h", 2, 5), of("g", 1, 195))
	shape(t, w, "h-1 h-2 g-1")
	if got := w.Machines(); !reflect.DeepEqual(got, []api.Machine{numbered("h", 1), numbered("h", 2), numbered("g", 1)}) {
		t.Error(got)
	}
	if got := w.Budgets(); !reflect.DeepEqual(got, budgets) || w.Now() != 0 || len(w.Missing()) != 0 {
		t.Error(got)
	}
	bad := []api.Budget{{Name: "b"}}
	for i, c := range []struct {
		l     []api.Group
		b     []api.Budget
		delay int
		want  api.Errno
	}{
		{[]api.Group{of("g", 1, 0)}, bad, 0, api.ErrForm},
		{[]api.Group{of("g", 0, 1)}, bad, 0, api.ErrArg},
		{[]api.Group{of("g", 0, 200), of("h", 0, 1)}, nil, 1001, api.ErrArg},
		{[]api.Group{of("g", 0, 200), of("h", 0, 1)}, bad, 1, api.ErrForm},
		{[]api.Group{of("g", 0, 200), of("h", 0, 1)}, nil, 1, api.ErrBig},
	} {
		if w, e := world.New(c.l, c.b, c.delay); w != nil || e != c.want {
			t.Error(i, e)
		}
	}
}

func TestP18_2AddPodAndDropPod(t *testing.T) {
	w := fresh(t, 1, nil, of("g", 1, 2))
	p := pod("p", 1)
	want(t, w.AddPod(p), api.OK)
	want(t, w.AddPod(pod("q", 1)), api.OK)
	p.Labels[0].Val = "changed"
	shape(t, w, "g-1", "p", "q")
	if w.Bounds()[0].Pod.Labels[0].Val != "x" {
		t.Error("the pod was retained")
	}
	want(t, w.AddPod(api.Pod{Name: "p"}), api.ErrForm)
	want(t, w.AddPod(pod("p", 5)), api.ErrTwice)
	want(t, w.DropPod("x"), api.ErrNone)
	want(t, w.DropPod("g-1"), api.ErrNone)
	want(t, w.DropPod("p"), api.OK)
	shape(t, w, "g-1", "q")
	want(t, w.AddPod(pod("p", 1)), api.OK)
	w.Pass()
	want(t, w.DropPod("p"), api.OK)
	shape(t, w, "g-1", "q g-1")
	for i := range 399 {
		want(t, w.AddPod(pod("x"+strconv.Itoa(i), 1)), api.OK)
	}
	want(t, w.AddPod(pod("y", 1)), api.ErrBig)
	want(t, w.AddPod(pod("q", 1)), api.ErrTwice)
	want(t, w.AddPod(pod("", 1)), api.ErrForm)
	want(t, w.DropPod("q"), api.OK)
	want(t, w.AddPod(pod("y", 1)), api.OK)
}

func TestP18_3Ready(t *testing.T) {
	w := fresh(t, 1, nil, of("g", 2, 2))
	want(t, w.Ready("x", true), api.ErrNone)
	want(t, w.Ready("g-2", false), api.OK)
	if ms := w.Machines(); !ms[0].Ready || ms[1].Ready {
		t.Error(ms)
	}
	w.Pass()
	if w.Machines()[1].Ready {
		t.Error("a Pass does not make it ready")
	}
	want(t, w.Ready("g-2", true), api.OK)
	want(t, w.Ready("g-1", false), api.OK)
	if w.Machines()[0].Ready {
		t.Error("the first machine")
	}
	if !w.Machines()[1].Ready {
		t.Error("ready again")
	}
}

func TestP18_3Hold(t *testing.T) {
	w := fresh(t, 1, nil, of("g", 1, 3))
	want(t, w.Increase("g", 2), api.OK)
	want(t, w.Hold("g-4", true), api.ErrNone)
	want(t, w.Hold("g-1", true), api.ErrState)
	want(t, w.Hold("g-1", false), api.ErrState)
	want(t, w.Hold("g-2", true), api.OK)
	want(t, w.Hold("g-2", true), api.OK)
	w.Pass()
	shape(t, w, "g-1 g-3")
	if l := w.Missing(); len(l) != 1 || l[0].Name != "g-2" || l[0].State != api.Running {
		t.Error(l)
	}
	w.Pass()
	shape(t, w, "g-1 g-3")
	want(t, w.Hold("g-2", false), api.OK)
	want(t, w.Hold("g-2", false), api.OK)
	shape(t, w, "g-1 g-3")
	w.Pass()
	shape(t, w, "g-1 g-3 g-2")
	want(t, w.Hold("g-2", true), api.ErrState)
}

func TestP18_3TaintAndUntaint(t *testing.T) {
	w := fresh(t, 1, nil, of("g", 2, 2))
	a, b := api.Taint{Key: "a", Val: "1", Effect: api.Prefer}, api.Taint{Key: "b", Effect: api.NoExecute}
	a2, a3 := api.Taint{Key: "a", Val: "2", Effect: api.Prefer}, api.Taint{Key: "a", Effect: api.NoSchedule}
	taints := func(l ...api.Taint) {
		t.Helper()
		if ms := w.Machines(); !slices.Equal(ms[0].Taints, l) || len(ms[1].Taints) != 0 {
			t.Error(ms)
		}
	}
	want(t, w.Taint("x", api.Taint{}), api.ErrNone)
	want(t, w.Taint("g-1", api.Taint{Key: "a"}), api.ErrForm)
	want(t, w.Taint("g-1", a), api.OK)
	want(t, w.Taint("g-1", b), api.OK)
	want(t, w.Taint("g-1", a2), api.OK)
	want(t, w.Taint("g-1", a3), api.OK)
	taints(b, a2, a3)
	want(t, w.Untaint("x", "a"), api.ErrNone)
	want(t, w.Untaint("g-1", "z"), api.OK)
	taints(b, a2, a3)
	want(t, w.Untaint("g-1", "a"), api.OK)
	taints(b)
	for i := range 15 {
		want(t, w.Taint("g-1", api.Taint{Key: "k" + strconv.Itoa(i), Effect: 1}), api.OK)
	}
	want(t, w.Taint("g-1", a), api.ErrForm)
	want(t, w.Taint("g-1", b), api.OK)
}

func TestP18_4Evict(t *testing.T) {
	w := fresh(t, 1, []api.Budget{{Name: "b", Match: []api.Label{{Key: "app", Val: "x"}}, Least: 1}}, of("g", 1, 2))
	for _, name := range []string{"p", "q", "r"} {
		want(t, w.AddPod(pod(name, 400)), api.OK)
	}
	w.Pass()
	shape(t, w, "g-1", "p g-1", "q g-1", "r")
	want(t, w.Evict("x"), api.ErrNone)
	want(t, w.Evict("r"), api.ErrState)
	want(t, w.Evict("p"), api.OK)
	shape(t, w, "g-1", "q g-1", "r", "p")
	want(t, w.Evict("q"), api.ErrMin)
	shape(t, w, "g-1", "q g-1", "r", "p")
}

func TestP18_5PassRegisters(t *testing.T) {
	w := fresh(t, 2, nil, of("g", 1, 5), of("h", 0, 5))
	want(t, w.Increase("h", 1), api.OK)
	want(t, w.Increase("g", 1), api.OK)
	want(t, w.AddPod(pod("p", 1000)), api.OK)
	want(t, w.AddPod(pod("q", 1000)), api.OK)
	w.Pass()
	shape(t, w, "g-1", "p g-1", "q")
	if w.Now() != 1 {
		t.Error(w.Now())
	}
	w.Pass()
	shape(t, w, "g-1 h-1 g-2", "p g-1", "q h-1")
	if got := w.Machines(); !reflect.DeepEqual(got, []api.Machine{numbered("g", 1), numbered("h", 1), numbered("g", 2)}) {
		t.Error(got)
	}
}

func TestP18_5PassRemoves(t *testing.T) {
	w := fresh(t, 1, nil, of("g", 0, 5))
	want(t, w.Increase("g", 3), api.OK)
	w.Pass()
	daemon := pod("d", 1)
	daemon.Daemon = true
	big := pod("big", 5000)
	want(t, w.AddPod(big), api.OK)
	for _, p := range []api.Pod{pod("p1", 600), pod("p2", 500), pod("p3", 400), daemon, pod("p4", 300)} {
		want(t, w.AddPod(p), api.OK)
	}
	w.Pass()
	shape(t, w, "g-1 g-2 g-3", "big", "p1 g-1", "p2 g-2", "p3 g-3", "d g-3", "p4 g-3")
	want(t, w.Delete("g-3"), api.OK)
	want(t, w.Delete("g-1"), api.OK)
	shape(t, w, "g-1 g-2 g-3", "big", "p1 g-1", "p2 g-2", "p3 g-3", "d g-3", "p4 g-3")
	if len(w.Missing()) != 0 {
		t.Error(w.Missing())
	}
	want(t, w.Ready("g-2", false), api.OK)
	w.Pass()
	shape(t, w, "g-2", "big", "p2 g-2", "p1", "p3", "p4")
}

func TestP18_5PassDeletesHeldAndFailedInstances(t *testing.T) {
	w := fresh(t, 1, nil, of("g", 0, 5))
	want(t, w.Increase("g", 2), api.OK)
	want(t, w.Hold("g-1", true), api.OK)
	want(t, w.Fail("g-2"), api.OK)
	w.Pass()
	shape(t, w, "")
	if l := w.Missing(); len(l) != 2 || l[0].Name != "g-1" || l[1].Name != "g-2" || l[1].State != api.Failed {
		t.Error(l)
	}
	want(t, w.Delete("g-1"), api.OK)
	if l := w.Missing(); len(l) != 1 || l[0].Name != "g-2" {
		t.Error("leaving instances are not missing", l)
	}
	w.Pass()
	want(t, w.Hold("g-1", false), api.ErrNone)
}

func TestP18_5PassSchedules(t *testing.T) {
	w := fresh(t, 1, nil, of("g", 1, 2))
	low, high := pod("low", 600), pod("high", 600)
	high.Rank = 9
	want(t, w.AddPod(low), api.OK)
	want(t, w.AddPod(high), api.OK)
	w.Pass()
	shape(t, w, "g-1", "low", "high g-1")
	want(t, w.DropPod("high"), api.OK)
	w.Pass()
	shape(t, w, "g-1", "low g-1")
}

func TestP18_6ListsAreNew(t *testing.T) {
	w := fresh(t, 1, []api.Budget{{Name: "b", Match: []api.Label{{Key: "a", Val: "b"}}}}, of("g", 1, 2))
	want(t, w.AddPod(pod("p", 1)), api.OK)
	want(t, w.Increase("g", 1), api.OK)
	for range 2 {
		ms, bs, us, l := w.Machines(), w.Bounds(), w.Budgets(), w.Missing()
		if ms[0].Name != "g-1" || ms[0].Labels[0].Val != "g" || bs[0].Pod.Name != "p" || bs[0].Pod.Labels[0].Val != "x" || us[0].Match[0].Key != "a" || l[0].Name != "g-2" {
			t.Error(ms, bs, us, l)
		}
		ms[0].Name, ms[0].Labels[0].Val, bs[0].Pod.Name, bs[0].Pod.Labels[0].Val, us[0].Match[0].Key, l[0].Name = "z", "z", "z", "z", "z", "z"
	}
}

func TestP18_6Missing(t *testing.T) {
	w := fresh(t, 3, nil, of("g", 1, 5))
	want(t, w.Increase("g", 3), api.OK)
	want(t, w.Fail("g-3"), api.OK)
	want(t, w.Delete("g-2"), api.OK)
	l := w.Missing()
	if len(l) != 2 || l[0] != (api.Inst{Name: "g-3", Group: "g", State: api.Failed}) || l[1] != (api.Inst{Name: "g-4", Group: "g", State: api.Creating, Left: 3}) {
		t.Error(l)
	}
}

func TestP18_7Properties(t *testing.T) {
	w := fresh(t, 2, nil, of("g", 1, 4), of("h", 0, 3))
	pods := 0
	for i := range 40 {
		p := pod("p"+strconv.Itoa(i), 200)
		if w.AddPod(p) == api.OK {
			pods++
		}
		w.Increase("g", i%2)
		w.Increase("h", i%3)
		w.Delete("g-" + strconv.Itoa(i/2))
		w.Hold("h-"+strconv.Itoa(i/3), i%2 == 0)
		w.Evict("p" + strconv.Itoa(i/2))
		w.Pass()
		if e := yard.Check(w.Machines(), w.Bounds()); e != api.OK || len(w.Bounds()) != pods {
			t.Error(i, e, len(w.Bounds()), pods)
		}
		exists := map[string]bool{}
		for _, x := range w.Insts() {
			exists[x.Name] = true
		}
		for _, m := range w.Machines() {
			if !exists[m.Name] {
				t.Error("a machine without an instance", m.Name)
			}
		}
	}
}

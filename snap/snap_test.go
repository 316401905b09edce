package snap_test

import (
	"reflect"
	"strconv"
	"testing"

	"trireme/api"
	"trireme/snap"
	"trireme/yard"
)

func machine(name string) api.Machine {
	return api.Machine{Name: name, Has: api.Res{Cpu: 1000, Pods: 10}, Ready: true, Labels: []api.Label{{Key: "a", Val: "b"}}}
}

func pod(name string) api.Pod {
	return api.Pod{Name: name, Need: api.Res{Cpu: 400, Pods: 1}, Labels: []api.Label{{Key: "a", Val: "b"}}}
}

func on(name, machine string) api.Bound { return api.Bound{Pod: pod(name), On: machine} }

// small returns a snapshot with the machines m and n, p on m, and q pending.
func small(t *testing.T) *snap.Snap {
	t.Helper()
	s, e := snap.New([]api.Machine{machine("m"), machine("n")}, []api.Bound{on("p", "m"), on("q", "")})
	if e != api.OK {
		t.Fatal(e)
	}
	return s
}

func check(t *testing.T, s *snap.Snap, ms []api.Machine, bs []api.Bound, depth int) {
	t.Helper()
	if got := s.Machines(); len(got)+len(ms) > 0 && !reflect.DeepEqual(got, ms) {
		t.Error("machines", got)
	}
	if got := s.Bounds(); len(got)+len(bs) > 0 && !reflect.DeepEqual(got, bs) {
		t.Error("bounds", got)
	}
	if got := s.Depth(); got != depth {
		t.Error("depth", got)
	}
	if e := yard.Check(s.Machines(), s.Bounds()); e != api.OK {
		t.Error("the yard is not valid", e)
	}
}

func want(t *testing.T, got, want api.Errno) {
	t.Helper()
	if got != want {
		t.Errorf("got %d, want %d", got, want)
	}
}

func TestNoObject(t *testing.T) {
	for _, s := range []*snap.Snap{nil, {}} {
		for _, e := range []api.Errno{s.Add(machine("m")), s.Add(api.Machine{}), s.Drop("m"), s.Put(pod("p"), ""), s.Put(api.Pod{}, "x"), s.Take("p"), s.Fork(), s.Commit(), s.Revert()} {
			want(t, e, api.ErrNil)
		}
		if s.Machines() != nil || s.Bounds() != nil || s.Depth() != 0 || s.Why(pod("p"), "m") != api.NotReady {
			t.Error("a result of an object that is none")
		}
	}
}

func TestP13_1New(t *testing.T) {
	check(t, small(t), []api.Machine{machine("m"), machine("n")}, []api.Bound{on("p", "m"), on("q", "")}, 0)
	s, e := snap.New(nil, nil)
	want(t, e, api.OK)
	check(t, s, nil, nil, 0)
	for i, c := range []struct {
		ms   []api.Machine
		bs   []api.Bound
		want api.Errno
	}{
		{make([]api.Machine, 201), nil, api.ErrBig}, {make([]api.Machine, 1), nil, api.ErrForm},
		{[]api.Machine{machine("m"), machine("m")}, nil, api.ErrTwice}, {nil, []api.Bound{on("p", "m")}, api.ErrNone},
	} {
		if s, e := snap.New(c.ms, c.bs); s != nil || e != c.want {
			t.Error(i, s, e)
		}
	}
}

func TestP13_1ListsAreNew(t *testing.T) {
	ms, bs := []api.Machine{machine("m")}, []api.Bound{on("p", "m")}
	s, _ := snap.New(ms, bs)
	m, p := machine("n"), pod("q")
	want(t, s.Add(m), api.OK)
	want(t, s.Put(p, "n"), api.OK)
	ms[0].Labels[0].Val, bs[0].Pod.Labels[0].Val, m.Labels[0].Val, p.Labels[0].Val = "x", "x", "x", "x"
	ms[0].Name, bs[0].On = "x", "x"
	for range 2 {
		gotM, gotB := s.Machines(), s.Bounds()
		check(t, s, []api.Machine{machine("m"), machine("n")}, []api.Bound{on("p", "m"), on("q", "n")}, 0)
		for i := range gotM {
			gotM[i].Labels[0].Val, gotB[i].Pod.Labels[0].Val = "x", "x"
			gotM[i].Name, gotB[i].On = "x", "x"
		}
	}
}

func TestP13_2Add(t *testing.T) {
	s := small(t)
	want(t, s.Add(machine("k")), api.OK)
	check(t, s, []api.Machine{machine("m"), machine("n"), machine("k")}, []api.Bound{on("p", "m"), on("q", "")}, 0)
	want(t, s.Add(machine("")), api.ErrForm)
	want(t, s.Add(machine("a b")), api.ErrForm)
	want(t, s.Add(api.Machine{Name: "m", Has: api.Res{Cpu: -1}}), api.ErrForm)
	want(t, s.Add(machine("m")), api.ErrTwice)
	for i := range 197 {
		want(t, s.Add(machine("x"+strconv.Itoa(i))), api.OK)
	}
	want(t, s.Add(machine("y")), api.ErrBig)
	want(t, s.Add(machine("m")), api.ErrTwice)
	want(t, s.Add(machine("")), api.ErrForm)
	if len(s.Machines()) != 200 {
		t.Error(len(s.Machines()))
	}
}

func TestP13_2Drop(t *testing.T) {
	s := small(t)
	want(t, s.Drop("x"), api.ErrNone)
	want(t, s.Drop(""), api.ErrNone)
	want(t, s.Drop("m"), api.ErrState)
	want(t, s.Drop("n"), api.OK)
	check(t, s, []api.Machine{machine("m")}, []api.Bound{on("p", "m"), on("q", "")}, 0)
	want(t, s.Drop("n"), api.ErrNone)
	want(t, s.Take("p"), api.OK)
	want(t, s.Drop("m"), api.OK)
	check(t, s, nil, []api.Bound{on("q", "")}, 0)
}

func TestP13_3Put(t *testing.T) {
	s := small(t)
	ms := []api.Machine{machine("m"), machine("n")}
	want(t, s.Put(pod("p"), "n"), api.OK)
	check(t, s, ms, []api.Bound{on("q", ""), on("p", "n")}, 0)
	want(t, s.Put(pod("r"), ""), api.OK)
	want(t, s.Put(pod("q"), "m"), api.OK)
	check(t, s, ms, []api.Bound{on("p", "n"), on("r", ""), on("q", "m")}, 0)
	want(t, s.Put(api.Pod{Name: "p"}, "x"), api.ErrForm)
	want(t, s.Put(pod("p"), "x"), api.ErrNone)
	check(t, s, ms, []api.Bound{on("p", "n"), on("r", ""), on("q", "m")}, 0)
	for i := range 397 {
		want(t, s.Put(pod("x"+strconv.Itoa(i)), "m"), api.OK)
	}
	want(t, s.Put(pod("y"), "m"), api.ErrBig)
	want(t, s.Put(pod("y"), "x"), api.ErrNone)
	want(t, s.Put(pod("p"), "m"), api.OK)
	if bs := s.Bounds(); len(bs) != 400 || bs[399].Pod.Name != "p" || bs[399].On != "m" {
		t.Error(len(bs))
	}
}

func TestP13_3Take(t *testing.T) {
	s := small(t)
	want(t, s.Take("x"), api.ErrNone)
	want(t, s.Take("m"), api.ErrNone)
	want(t, s.Take("p"), api.OK)
	check(t, s, []api.Machine{machine("m"), machine("n")}, []api.Bound{on("q", "")}, 0)
	want(t, s.Take("p"), api.ErrNone)
	want(t, s.Take("q"), api.OK)
	check(t, s, []api.Machine{machine("m"), machine("n")}, nil, 0)
}

func TestP13_4Transactions(t *testing.T) {
	s := small(t)
	ms, bs := s.Machines(), s.Bounds()
	want(t, s.Commit(), api.ErrBase)
	want(t, s.Revert(), api.ErrBase)
	want(t, s.Fork(), api.OK)
	want(t, s.Add(machine("k")), api.OK)
	want(t, s.Put(pod("r"), "k"), api.OK)
	inner, innerB := s.Machines(), s.Bounds()
	want(t, s.Fork(), api.OK)
	want(t, s.Take("p"), api.OK)
	want(t, s.Drop("m"), api.OK)
	want(t, s.Put(pod("q"), "n"), api.OK)
	check(t, s, []api.Machine{machine("n"), machine("k")}, []api.Bound{on("r", "k"), on("q", "n")}, 2)
	want(t, s.Revert(), api.OK)
	check(t, s, inner, innerB, 1)
	want(t, s.Fork(), api.OK)
	want(t, s.Take("q"), api.OK)
	want(t, s.Commit(), api.OK)
	check(t, s, inner, []api.Bound{on("p", "m"), on("r", "k")}, 1)
	want(t, s.Revert(), api.OK)
	check(t, s, ms, bs, 0)
	want(t, s.Revert(), api.ErrBase)
	want(t, s.Fork(), api.OK)
	want(t, s.Drop("n"), api.OK)
	want(t, s.Commit(), api.OK)
	check(t, s, ms[:1], bs, 0)
	want(t, s.Commit(), api.ErrBase)
	check(t, s, ms[:1], bs, 0)
}

func TestP13_4Depth(t *testing.T) {
	s := small(t)
	for i := range 20 {
		want(t, s.Take("p"+strconv.Itoa(i-1)), api.ErrNone)
		want(t, s.Put(pod("x"+strconv.Itoa(i)), ""), api.OK)
		want(t, s.Fork(), api.OK)
	}
	want(t, s.Fork(), api.ErrBig)
	if s.Depth() != 20 {
		t.Error(s.Depth())
	}
	want(t, s.Put(pod("last"), ""), api.OK)
	for i := 20; i > 0; i-- {
		want(t, s.Revert(), api.OK)
		// Each Revert goes back to the matching Fork, before which one more pod was put.
		if n := len(s.Bounds()); n != 2+i || s.Depth() != i-1 {
			t.Error(i, n, s.Depth())
		}
	}
}

func TestP13_5Why(t *testing.T) {
	s := small(t)
	r := pod("r")
	for name, want := range map[string]int{"m": api.FitOk, "n": api.FitOk, "x": api.NotReady, "": api.NotReady} {
		if got := s.Why(r, name); got != want {
			t.Error(name, got)
		}
	}
	r.Need.Cpu = 700
	if s.Why(r, "m") != api.NoRoom || s.Why(r, "n") != api.FitOk {
		t.Error("room")
	}
	want(t, s.Put(r, "n"), api.OK)
	if s.Why(pod("z"), "n") != api.NoRoom || s.Why(r, "n") != api.FitOk {
		t.Error("after Put")
	}
	if s.Why(api.Pod{Name: "z"}, "m") != api.NotReady || s.Why(api.Pod{}, "m") != api.NotReady {
		t.Error("a pod that is not valid")
	}
}

func TestP13_6RevertRestoresExactly(t *testing.T) {
	s := small(t)
	ms, bs := s.Machines(), s.Bounds()
	want(t, s.Fork(), api.OK)
	want(t, s.Add(machine("k")), api.OK)
	want(t, s.Put(pod("p"), "k"), api.OK)
	want(t, s.Put(pod("q"), "k"), api.OK)
	want(t, s.Put(pod("p"), "x"), api.ErrNone)
	want(t, s.Drop("m"), api.OK)
	want(t, s.Drop("n"), api.OK)
	want(t, s.Add(machine("m")), api.OK)
	check(t, s, []api.Machine{machine("k"), machine("m")}, []api.Bound{on("p", "k"), on("q", "k")}, 1)
	want(t, s.Revert(), api.OK)
	check(t, s, ms, bs, 0)
}

package suit_test

import (
	"testing"

	"trireme/api"
	"trireme/suit"
)

func machine() api.Machine {
	return api.Machine{
		Name: "m", Has: api.Res{Cpu: 1000, Mem: 100, Disk: 100, Pods: 3, Dev: 1}, Ready: true,
		Labels: []api.Label{{Key: "app", Val: "x"}, {Key: "n", Val: "7"}},
		Taints: []api.Taint{{Key: "gpu", Val: "yes", Effect: api.NoSchedule}, {Key: "slow", Effect: api.Prefer}, {Key: "far", Effect: api.Prefer}},
	}
}

func pod(name string) api.Pod {
	return api.Pod{Name: name, Need: api.Res{Cpu: 300, Pods: 1}, Bears: []api.Toleration{{Key: "gpu", Any: true}}}
}

func on(name, machine string, cpu int, ports ...int) api.Bound {
	return api.Bound{Pod: api.Pod{Name: name, Need: api.Res{Cpu: cpu, Pods: 1}, Ports: ports}, On: machine}
}

func TestP10_1Place(t *testing.T) {
	for i, c := range []struct {
		change func(m *api.Machine, p *api.Pod)
		want   int
	}{
		{func(m *api.Machine, p *api.Pod) {}, api.FitOk},
		{func(m *api.Machine, p *api.Pod) { m.Ready = false }, api.NotReady},
		{func(m *api.Machine, p *api.Pod) { p.Select = []api.Label{{Key: "app", Val: "x"}} }, api.FitOk},
		{func(m *api.Machine, p *api.Pod) { p.Select = []api.Label{{Key: "app", Val: "y"}} }, api.NoSelect},
		{func(m *api.Machine, p *api.Pod) { p.Select = []api.Label{{Key: "app", Val: "x"}, {Key: "b"}} }, api.NoSelect},
		{func(m *api.Machine, p *api.Pod) { p.Terms = []api.Term{{Key: "n", Op: api.Above, Vals: []string{"6"}}} }, api.FitOk},
		{func(m *api.Machine, p *api.Pod) {
			p.Terms = []api.Term{{Key: "n", Op: api.Exists}, {Key: "n", Op: api.Missing}}
		}, api.NoTerm},
		{func(m *api.Machine, p *api.Pod) { p.Bears = nil }, api.Tainted},
		{func(m *api.Machine, p *api.Pod) {
			m.Taints[0].Effect = api.NoExecute
			p.Bears[0].Effect = api.NoSchedule
		}, api.Tainted},
		{func(m *api.Machine, p *api.Pod) { m.Taints[0].Effect = api.Prefer; p.Bears = nil }, api.FitOk},
		{func(m *api.Machine, p *api.Pod) { m.Has = api.Res{} }, api.FitOk},
	} {
		m, p := machine(), pod("p")
		c.change(&m, &p)
		if got := suit.Place(m, p); got != c.want {
			t.Error(i, got)
		}
	}
}

func TestP10_1OrderOfTheReasons(t *testing.T) {
	m, p := machine(), pod("p")
	m.Ready, p.Bears, p.Need.Cpu = false, nil, 5000
	p.Select, p.Terms = []api.Label{{Key: "z"}}, []api.Term{{Key: "z", Op: api.Exists}}
	p.Ports = []int{80}
	bs := []api.Bound{on("q", "m", 0, 80)}
	for _, step := range []struct {
		want, place int
		mend        func()
	}{
		{api.NotReady, api.NotReady, func() { m.Ready = true }},
		{api.NoSelect, api.NoSelect, func() { p.Select = nil }},
		{api.NoTerm, api.NoTerm, func() { p.Terms = nil }},
		{api.Tainted, api.Tainted, func() { p.Bears = []api.Toleration{{Any: true}} }},
		{api.NoRoom, api.FitOk, func() { p.Need.Cpu = 1 }},
		{api.NoPort, api.FitOk, func() { p.Ports = []int{79, 81} }},
		{api.FitOk, api.FitOk, func() {}},
	} {
		if got := suit.Suits(m, bs, p); got != step.want {
			t.Error("Suits", got, step.want)
		}
		if got := suit.Place(m, p); got != step.place {
			t.Error("Place", got, step.place)
		}
		step.mend()
	}
}

func TestP10_2Room(t *testing.T) {
	p := pod("p")
	p.Ports = []int{80, 90}
	for i, c := range []struct {
		bs   []api.Bound
		want int
	}{
		{nil, api.FitOk},
		{[]api.Bound{on("a", "m", 700)}, api.FitOk},
		{[]api.Bound{on("a", "m", 701)}, api.NoRoom},
		{[]api.Bound{on("a", "m", 800)}, api.NoRoom},
		{[]api.Bound{on("a", "n", 800), on("b", "", 800)}, api.FitOk},
		{[]api.Bound{on("a", "m", 400), on("b", "m", 400)}, api.NoRoom},
		{[]api.Bound{on("a", "m", 0), on("b", "m", 0), on("c", "m", 0)}, api.NoRoom},
		{[]api.Bound{on("p", "m", 800), on("a", "m", 700)}, api.FitOk},
		{[]api.Bound{on("p", "m", 0, 80)}, api.FitOk},
		{[]api.Bound{on("a", "m", 0, 80)}, api.NoPort},
		{[]api.Bound{on("b", "m", 0, 1, 2), on("a", "m", 0, 70, 90, 100)}, api.NoPort},
		{[]api.Bound{on("a", "m", 0, 79, 81)}, api.FitOk},
		{[]api.Bound{on("a", "n", 0, 80), on("b", "", 0, 90)}, api.FitOk},
		{[]api.Bound{on("a", "m", 900, 80)}, api.NoRoom},
	} {
		if got := suit.Room(machine(), c.bs, p); got != c.want {
			t.Error(i, got)
		}
		if got := suit.Suits(machine(), c.bs, p); got != c.want {
			t.Error("Suits", i, got)
		}
	}
	m := machine()
	m.Ready = false
	if suit.Room(m, nil, api.Pod{Need: api.Res{Pods: 1}, Select: []api.Label{{Key: "z"}}}) != api.FitOk {
		t.Error("Room does not look at the machine itself")
	}
	for i, need := range []api.Res{{Cpu: 1001, Pods: 1}, {Mem: 101, Pods: 1}, {Disk: 101, Pods: 1}, {Pods: 4}, {Dev: 2, Pods: 1}} {
		if got := suit.Room(m, nil, api.Pod{Name: "p", Need: need}); got != api.NoRoom {
			t.Error("component", i, got)
		}
	}
}

func TestP10_3Prefers(t *testing.T) {
	p := pod("p")
	for i, c := range []struct {
		bears []api.Toleration
		want  int
	}{
		{nil, 2}, {p.Bears, 2}, {[]api.Toleration{{Key: "slow"}}, 1}, {[]api.Toleration{{Key: "slow", Effect: api.NoSchedule}}, 2}, {[]api.Toleration{{Any: true}}, 0},
	} {
		p.Bears = c.bears
		if got := suit.Prefers(machine(), p); got != c.want {
			t.Error(i, got)
		}
	}
}

func TestP10_4LessIsNoWorse(t *testing.T) {
	p := pod("p")
	bs := []api.Bound{on("a", "m", 300), on("b", "m", 400)}
	if suit.Suits(machine(), bs, p) != api.FitOk {
		t.Fatal("p can run")
	}
	p.Need.Cpu--
	if suit.Suits(machine(), bs, p) != api.FitOk || suit.Suits(machine(), bs[1:], p) != api.FitOk || suit.Suits(machine(), nil, p) != api.FitOk {
		t.Error("with less need or fewer pods")
	}
}

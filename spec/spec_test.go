package spec_test

import (
	"math"
	"reflect"
	"strconv"
	"strings"
	"testing"

	"trireme/api"
	"trireme/spec"
	"trireme/tree"
)

func nodes(t *testing.T, s string) []api.Node {
	t.Helper()
	l, e, at := tree.Parse(s)
	if e != api.OK {
		t.Fatalf("%q: %d at %d", s, e, at)
	}
	return l
}

const fullPod = `(pod p (need 250m 1Gi 3Ki 2) (label a 1) (label b "") (select zone z) (apart a 1) (apart c d) (term k in x "" y) (term k notin z) (term k exists) (term k missing) (term k above 5) (term k below 007) (bear gpu yes no) (bear gpu "" any) (bearany "" out) (bearany k prefer) (port 80) (port 65535) (spread 2) (over a 1) (rank 1000) (owner o) wide daemon pinned local)`

func wantPod() api.Pod {
	return api.Pod{
		Name: "p", Need: api.Res{Cpu: 250, Mem: 1 << 30, Disk: 3 << 10, Pods: 1, Dev: 2},
		Labels: []api.Label{{Key: "a", Val: "1"}, {Key: "b"}}, Select: []api.Label{{Key: "zone", Val: "z"}},
		Apart: []api.Label{{Key: "a", Val: "1"}, {Key: "c", Val: "d"}}, Wide: true,
		Terms: []api.Term{{Key: "k", Op: api.In, Vals: []string{"x", "", "y"}}, {Key: "k", Op: api.NotIn, Vals: []string{"z"}}, {Key: "k", Op: api.Exists},
			{Key: "k", Op: api.Missing}, {Key: "k", Op: api.Above, Vals: []string{"5"}}, {Key: "k", Op: api.Below, Vals: []string{"007"}}},
		Bears: []api.Toleration{{Key: "gpu", Val: "yes", Effect: api.NoSchedule}, {Key: "gpu"}, {Any: true, Effect: api.NoExecute}, {Key: "k", Any: true, Effect: api.Prefer}},
		Ports: []int{80, 65535}, Spread: []api.Label{{Key: "a", Val: "1"}}, Skew: 2, Rank: 1000, Owner: "o", Daemon: true, Pinned: true, Local: true,
	}
}

const fullMachine = `(machine m (group g) (has 1500m 2Gi 5 110 1) (label zone z) (taint gpu yes no) (taint gpu "" prefer) (taint k v out) ready)`

func wantMachine() api.Machine {
	return api.Machine{Name: "m", Group: "g", Has: api.Res{Cpu: 1500, Mem: 2 << 30, Disk: 5, Pods: 110, Dev: 1}, Labels: []api.Label{{Key: "zone", Val: "z"}},
		Taints: []api.Taint{{Key: "gpu", Val: "yes", Effect: api.NoSchedule}, {Key: "gpu", Effect: api.Prefer}, {Key: "k", Val: "v", Effect: api.NoExecute}}, Ready: true}
}

const fullGroup = `(group g (size 1 200) (price 7) (rank 3) (has 1500m 2Gi 5 110 1) (label zone z) (taint gpu yes no) (taint gpu "" prefer) (taint k v out))`

func wantGroup() api.Group {
	like := wantMachine()
	like.Name = ""
	return api.Group{Name: "g", Min: 1, Max: 200, Price: 7, Rank: 3, Like: like}
}

func TestP7_1PodMachineGroup(t *testing.T) {
	l := nodes(t, "x "+fullPod+fullMachine+fullGroup)
	tops := tree.Tops(l)
	if p, e, at := spec.Pod(l, tops[1]); !reflect.DeepEqual(p, wantPod()) || e != api.OK || at != 0 {
		t.Error(p, e, at)
	}
	if m, e, at := spec.Machine(l, tops[2]); !reflect.DeepEqual(m, wantMachine()) || e != api.OK || at != 0 {
		t.Error(m, e, at)
	}
	if g, e, at := spec.Group(l, tops[3]); !reflect.DeepEqual(g, wantGroup()) || e != api.OK || at != 0 {
		t.Error(g, e, at)
	}
}

func TestP7_1WhatNoFieldSetsIsZero(t *testing.T) {
	if p, e, _ := spec.Pod(nodes(t, "(pod a)"), 0); !reflect.DeepEqual(p, api.Pod{Name: "a", Need: api.Res{Pods: 1}}) || e != api.OK {
		t.Error(p, e)
	}
	if p, e, _ := spec.Pod(nodes(t, "(pod a (need 1 2 3 4))"), 0); p.Need != (api.Res{Cpu: 1000, Mem: 2, Disk: 3, Dev: 4, Pods: 1}) || e != api.OK {
		t.Error(p, e)
	}
	for _, c := range []struct {
		s    string
		want api.Machine
	}{
		{"(machine m)", api.Machine{Name: "m"}},
		{"(machine \"\")", api.Machine{}},
		{"(machine m ready)", api.Machine{Name: "m", Ready: true}},
	} {
		if m, e, _ := spec.Machine(nodes(t, c.s), 0); !reflect.DeepEqual(m, c.want) || e != api.OK {
			t.Error(m, e)
		}
	}
	want := api.Group{Name: "g", Max: 1, Like: api.Machine{Group: "g", Ready: true}}
	if g, e, _ := spec.Group(nodes(t, "(group g (size 0 1))"), 0); !reflect.DeepEqual(g, want) || e != api.OK {
		t.Error(g, e)
	}
}

func TestP7_1FieldsInAnyOrder(t *testing.T) {
	p, e, _ := spec.Pod(nodes(t, "(pod a local (label a 1) (need 1 1 1 1) (port 1) (label b 2) (port 2) (bearany \"\" any) (term x exists) (bear k v any))"), 0)
	if e != api.OK || len(p.Labels) != 2 || len(p.Ports) != 2 || len(p.Bears) != 2 || !p.Bears[0].Any || p.Bears[1].Any || !p.Local {
		t.Error(p, e)
	}
}

type parser func(l []api.Node, i int) (any, api.Errno, int)

func pod(l []api.Node, i int) (any, api.Errno, int)     { return three(spec.Pod(l, i)) }
func machine(l []api.Node, i int) (any, api.Errno, int) { return three(spec.Machine(l, i)) }
func group(l []api.Node, i int) (any, api.Errno, int)   { return three(spec.Group(l, i)) }

func three[T any](x T, e api.Errno, at int) (any, api.Errno, int) {
	var zero T
	if reflect.DeepEqual(x, zero) {
		return nil, e, at
	}
	return x, e, at
}

// wrong checks errors; the position of the error is that of the mark ^ in the text, which is removed, or 0.
func wrong(t *testing.T, f parser, s string, want api.Errno) {
	t.Helper()
	place := max(strings.Index(s, "^"), 0)
	l := nodes(t, strings.Replace(s, "^", "", 1))
	if x, e, at := f(l, 0); x != nil || e != want || at != place {
		t.Errorf("%s: got %v %d at %d, want %d at %d", s, x, e, at, want, place)
	}
}

func TestP7_1NoForm(t *testing.T) {
	for _, f := range []parser{pod, machine, group} {
		l := nodes(t, "(pod a)(machine a)(group a)")
		for _, i := range []int{-1, len(l), math.MaxInt, math.MinInt} {
			if x, e, at := f(l, i); x != nil || e != api.ErrForm || at != 0 {
				t.Error(i, x, e, at)
			}
		}
		for _, l := range [][]api.Node{nil, {{Kind: api.List, Kids: 2, At: 5}, {Kind: api.Word, Text: "pod", At: 6}}, {{Kind: api.List, Kids: -1, At: 5}}} {
			if x, e, at := f(l, 0); x != nil || e != api.ErrForm || at != 0 {
				t.Error(l, x, e, at)
			}
		}
		for _, s := range []string{"  ^()", " ^x", " ^\"\"", " ^(x a)", " ^(\"pod\" a)", " ^((pod) a)", " ^(pod)", " ^(machine)", " ^(group)", " ^(pods a (need))"} {
			wrong(t, f, s, api.ErrForm)
		}
	}
	for _, s := range []string{" ^(machine a)", " ^(pod \"\")", " ^(pod \"a\")", " ^(pod (a))", " ^(pod (need 1 1 1 1))"} {
		wrong(t, pod, s, api.ErrForm)
	}
	for _, s := range []string{" ^(pod a)", " ^(machine \"a\")", " ^(machine ())"} {
		wrong(t, machine, s, api.ErrForm)
	}
	for _, s := range []string{" ^(machine a)", " ^(group \"\" (size 0 1))", " ^(group (a))"} {
		wrong(t, group, s, api.ErrForm)
	}
}

func TestP7_1FieldErrors(t *testing.T) {
	for _, s := range []string{
		"(pod a ^x)", "(pod a ^(x))", "(pod a ^())", "(pod a ^(()))", "(pod a ^((need) 1))", "(pod a ^\"\")", "(pod a ^\"wide\")", "(pod a ^(\"port\" 1))",
		"(pod a ^need)", "(pod a ^port)", "(pod a ^(wide))", "(pod a ^(local 1))", "(pod a ^ready)", "(pod a ^(has 1 1 1 1 1))", "(pod a ^(size 1 1))", "(pod a ^(group g))",
		"(pod a ^(taint a b no))", "(pod a ^(price 1))", "(pod a ^(Need 1 1 1 1))",
		"(pod a (need 1 1 1 1) ^(need 1 1 1 1))", "(pod a (rank 1) ^(rank 2))", "(pod a (owner a) ^(owner a))", "(pod a (spread 1) (over a b) ^(spread))", "(pod a daemon ^daemon)",
		"(pod a local ^local)", "(pod a pinned ^pinned)", "(pod a wide ^wide)", "(pod a ^x (need))",
	} {
		wrong(t, pod, s, api.ErrField)
	}
	for _, s := range []string{"(machine a ^(need 1 1 1 1))", "(machine a ^wide)", "(machine a ready ^ready)", "(machine a (group a) ^(group b))", "(machine a (has 1 1 1 1 1) ^(has 1 1 1 1 1))", "(machine a ^(ready))", "(machine a ^(select a b))"} {
		wrong(t, machine, s, api.ErrField)
	}
	for _, s := range []string{"(group a ^ready)", "(group a ^(group a))", "(group a (size 1 1) ^(size 1 1))", "(group a (rank 1) ^(rank 1))", "(group a (price 1) ^(price 1))", "(group a (has 1 1 1 1 1) ^(has 1 1 1 1 1))", "(group a ^(bear a b no))"} {
		wrong(t, group, s, api.ErrField)
	}
}

func TestP7_1CountErrors(t *testing.T) {
	for _, s := range []string{
		"(pod a ^(need 1 1 1))", "(pod a ^(need 1 1 1 1 1))", "(pod a ^(need))", "(pod a ^(label a))", "(pod a ^(select a b c))", "(pod a ^(apart a))", "(pod a ^(over))",
		"(pod a ^(term))", "(pod a ^(term a))", "(pod a ^(bear a b))", "(pod a ^(bearany a b no))", "(pod a ^(port))", "(pod a ^(port 1 2))", "(pod a ^(spread))",
		"(pod a ^(rank 1 1))", "(pod a ^(owner))", "(pod a ^(label \"x\"))",
	} {
		wrong(t, pod, s, api.ErrForm)
	}
	for _, s := range []string{"(machine a ^(has 1 1 1 1))", "(machine a ^(group))", "(machine a ^(taint a b))", "(machine a ^(taint a b no no))"} {
		wrong(t, machine, s, api.ErrForm)
	}
	for _, s := range []string{"(group a ^(size 1))", "(group a ^(price))", "(group a ^(rank))", "(group a ^(label a))"} {
		wrong(t, group, s, api.ErrForm)
	}
}

func TestP7_1ValueErrors(t *testing.T) {
	for _, s := range []string{
		"(pod a (need ^\"1\" 1 1 1))", "(pod a (need 1 ^() 1 1))", "(pod a (label ^\"\" a))", "(pod a (label ^\"a\" a))", "(pod a (label a ^\"b\"))", "(pod a (label a ^()))",
		"(pod a (term a ^x))", "(pod a (term a ^\"\"))", "(pod a (term a ^In b))", "(pod a (term ^() in))", "(pod a (term a in b ^\"c\"))", "(pod a (bear a b ^x))", "(pod a (bear a b ^\"\"))",
		"(pod a (bear ^\"x\" b no))", "(pod a (bearany ^() no))", "(pod a (port ^\"1\"))", "(pod a (owner ^\"\"))", "(pod a (rank ^()))", "(pod a (term a ^\"in\"))",
	} {
		wrong(t, pod, s, api.ErrKind)
	}
	wrong(t, machine, "(machine a (taint ^\"\" b no))", api.ErrKind)
	wrong(t, machine, "(machine a (taint a b ^NoSchedule))", api.ErrKind)
	wrong(t, machine, "(machine a (group ^\"\"))", api.ErrKind)
	wrong(t, group, "(group a (size 1 ^\"1\"))", api.ErrKind)
	wrong(t, pod, "(pod a (need ^x 1x 1 1))", api.ErrNumber)
	wrong(t, pod, "(pod a (need 1 ^1x 1 1))", api.ErrUnit)
	wrong(t, pod, "(pod a (need 1 1 ^0.5 1))", api.ErrNumber)
	wrong(t, pod, "(pod a (need ^0.5m 1 1 1))", api.ErrNumber)
	wrong(t, pod, "(pod a (need 1 1 1 ^1k))", api.ErrNumber)
	wrong(t, pod, "(pod a (need 1 ^2000Ti 1 1))", api.ErrOver)
	wrong(t, pod, "(pod a (port ^-1))", api.ErrNumber)
	wrong(t, machine, "(machine a (has 1 1 1 ^1Ki 1))", api.ErrNumber)
	wrong(t, machine, "(machine a (has 1 1 1 1 ^1m))", api.ErrNumber)
	wrong(t, group, "(group a (size ^2000000000000000 1))", api.ErrOver)
}

func TestP7_1FirstErrorWins(t *testing.T) {
	wrong(t, pod, "(pod a (port ^x) x)", api.ErrNumber)
	wrong(t, pod, "(pod a ^(port 1 1) (port x))", api.ErrForm)
	wrong(t, pod, "(pod a (label ^() \"x\"))", api.ErrKind)
	wrong(t, pod, "(pod a (rank 5000) ^y)", api.ErrField)
	wrong(t, pod, "^(pod \"\" (port x))", api.ErrForm)
}

func TestP7_1ResultsThatAreNotValid(t *testing.T) {
	for _, s := range []string{"  ^(pod a wide)", " ^(pod a (label b x) (label a x))", " ^(pod a (port 0))", " ^(pod a (spread 1))", " ^(pod a (over a b))", " ^(pod a (rank 1001))", " ^(pod a (bear \"\" x no))", " ^(pod a (term a in))", " ^(pod a (port 65536))"} {
		wrong(t, pod, s, api.ErrForm)
	}
	for _, s := range []string{" ^(machine a (taint a b any))", " ^(machine a (taint a b no) (taint a c no))", " ^(machine a (label a b) (label a b))"} {
		wrong(t, machine, s, api.ErrForm)
	}
	for _, s := range []string{" ^(group a)", " ^(group a (size 2 1))", " ^(group a (size 1 201))", " ^(group a (size 0 0))", " ^(group a (size 0 1) (rank 1001))", " ^(group a (size 0 1) (taint a b any))"} {
		wrong(t, group, s, api.ErrForm)
	}
}

func labels(n int) []api.Label {
	var l []api.Label
	for i := range n {
		l = append(l, api.Label{Key: "k" + strconv.Itoa(100+i)})
	}
	return l
}

func TestP7_2RightPod(t *testing.T) {
	if !spec.RightPod(wantPod()) || !spec.RightPod(api.Pod{Name: "a", Need: api.Res{Pods: 1}}) || spec.RightPod(api.Pod{}) {
		t.Error("RightPod")
	}
	ports := func(n int) []int {
		var l []int
		for i := range n {
			l = append(l, i+1)
		}
		return l
	}
	terms := make([]api.Term, 17)
	bears := make([]api.Toleration, 17)
	for i := range 17 {
		terms[i], bears[i] = api.Term{Key: "a", Op: api.Exists}, api.Toleration{Any: true}
	}
	for i, change := range []func(*api.Pod){
		func(p *api.Pod) { p.Need.Pods = 1; p.Name = strings.Repeat("é", 64) },
		func(p *api.Pod) { p.Terms, p.Bears, p.Ports, p.Labels = terms[:16], bears[:16], ports(16), labels(16) },
		func(p *api.Pod) { p.Skew, p.Rank, p.Owner, p.Wide = 100, 0, "", false },
		func(p *api.Pod) { p.Spread, p.Skew = nil, 0 },
		func(p *api.Pod) { p.Apart, p.Wide, p.Skew = p.Apart[:1], true, 1 },
	} {
		p := wantPod()
		change(&p)
		if !spec.RightPod(p) {
			t.Error("valid", i, p)
		}
	}
	for i, change := range []func(*api.Pod){
		func(p *api.Pod) { p.Name = "" }, func(p *api.Pod) { p.Name = "a b" }, func(p *api.Pod) { p.Need.Pods = 0 }, func(p *api.Pod) { p.Need.Pods = 2 },
		func(p *api.Pod) { p.Need.Cpu = -1 }, func(p *api.Pod) { p.Need.Dev = api.MaxRes + 1 },
		func(p *api.Pod) { p.Labels = labels(17) }, func(p *api.Pod) { p.Select = labels(17) }, func(p *api.Pod) { p.Apart = labels(17) }, func(p *api.Pod) { p.Spread = labels(17) },
		func(p *api.Pod) { p.Terms = terms }, func(p *api.Pod) { p.Terms = []api.Term{{Key: "a", Op: 9}} },
		func(p *api.Pod) { p.Bears = bears }, func(p *api.Pod) { p.Bears = []api.Toleration{{}} },
		func(p *api.Pod) { p.Ports = ports(17) }, func(p *api.Pod) { p.Ports = []int{0} }, func(p *api.Pod) { p.Ports = []int{65536} }, func(p *api.Pod) { p.Ports = []int{2, 2} }, func(p *api.Pod) { p.Ports = []int{2, 1} },
		func(p *api.Pod) { p.Apart = nil }, func(p *api.Pod) { p.Spread = nil }, func(p *api.Pod) { p.Skew = 0 }, func(p *api.Pod) { p.Skew = 101 }, func(p *api.Pod) { p.Skew = -1 },
		func(p *api.Pod) { p.Rank = -1 }, func(p *api.Pod) { p.Rank = 1001 }, func(p *api.Pod) { p.Owner = "a b" },
	} {
		p := wantPod()
		change(&p)
		if spec.RightPod(p) || spec.ShowPod(p) != "" {
			t.Error("not valid", i, p)
		}
	}
}

func TestP7_2RightMachineAndGroup(t *testing.T) {
	if !spec.RightMachine(wantMachine()) || !spec.RightMachine(api.Machine{}) || !spec.RightGroup(wantGroup()) || spec.RightGroup(api.Group{}) {
		t.Error("RightMachine or RightGroup")
	}
	for i, change := range []func(*api.Machine){
		func(m *api.Machine) { m.Name = "a b" }, func(m *api.Machine) { m.Group = "(" }, func(m *api.Machine) { m.Has.Mem = -1 },
		func(m *api.Machine) { m.Labels = labels(17) }, func(m *api.Machine) { m.Taints = []api.Taint{{Key: "a"}} },
	} {
		m := wantMachine()
		change(&m)
		if spec.RightMachine(m) || spec.ShowMachine(m) != "" {
			t.Error("machine", i, m)
		}
	}
	for i, change := range []func(*api.Group){
		func(g *api.Group) { g.Name, g.Like.Group = "", "" }, func(g *api.Group) { g.Name = "h" }, func(g *api.Group) { g.Max = 0; g.Min = 0 }, func(g *api.Group) { g.Max = 201 },
		func(g *api.Group) { g.Min = -1 }, func(g *api.Group) { g.Min = 201 }, func(g *api.Group) { g.Max, g.Min = 5, 6 },
		func(g *api.Group) { g.Price = -1 }, func(g *api.Group) { g.Price = api.MaxRes + 1 }, func(g *api.Group) { g.Rank = -1 }, func(g *api.Group) { g.Rank = 1001 },
		func(g *api.Group) { g.Like.Name = "x" }, func(g *api.Group) { g.Like.Ready = false }, func(g *api.Group) { g.Like.Group = "" }, func(g *api.Group) { g.Like.Has.Pods = -1 },
	} {
		g := wantGroup()
		change(&g)
		if spec.RightGroup(g) || spec.ShowGroup(g) != "" {
			t.Error("group", i, g)
		}
	}
	g := wantGroup()
	g.Price, g.Rank, g.Min, g.Max = api.MaxRes, 1000, 200, 200
	if !spec.RightGroup(g) {
		t.Error("a group at its limits")
	}
}

func TestP7_3Show(t *testing.T) {
	if s := spec.ShowPod(wantPod()); s != fullPod {
		t.Error(s)
	}
	if s := spec.ShowMachine(wantMachine()); s != fullMachine {
		t.Error(s)
	}
	if s := spec.ShowGroup(wantGroup()); s != fullGroup {
		t.Error(s)
	}
	if s := spec.ShowPod(api.Pod{Name: "a", Need: api.Res{Pods: 1}}); s != "(pod a (need 0 0 0 0))" {
		t.Error(s)
	}
	if s := spec.ShowMachine(api.Machine{}); s != "(machine \"\" (has 0 0 0 0 0))" {
		t.Error(s)
	}
	if s := spec.ShowGroup(api.Group{Name: "g", Max: 2, Like: api.Machine{Group: "g", Ready: true}}); s != "(group g (size 0 2) (has 0 0 0 0 0))" {
		t.Error(s)
	}
	p := api.Pod{Name: "a", Need: api.Res{Pods: 1, Cpu: 2000, Mem: 1536, Disk: 1 << 20, Dev: 2048}}
	if s := spec.ShowPod(p); s != "(pod a (need 2 1536 1Mi 2048))" {
		t.Error(s)
	}
	m := api.Machine{Name: "a", Has: api.Res{Cpu: 1, Pods: 1024}}
	if s := spec.ShowMachine(m); s != "(machine a (has 1m 0 0 1024 0))" {
		t.Error(s)
	}
}

func TestP7_4WhatIsShownIsParsedAgain(t *testing.T) {
	pods := []api.Pod{wantPod(), {Name: "é", Need: api.Res{Pods: 1, Cpu: api.MaxRes, Mem: 1023}, Labels: labels(16)}}
	for _, p := range pods {
		if q, e, _ := spec.Pod(nodes(t, spec.ShowPod(p)), 0); !reflect.DeepEqual(p, q) || e != api.OK || !spec.RightPod(q) {
			t.Error(p, q, e)
		}
	}
	for _, m := range []api.Machine{wantMachine(), {}, {Group: "g"}} {
		if n, e, _ := spec.Machine(nodes(t, spec.ShowMachine(m)), 0); !reflect.DeepEqual(m, n) || e != api.OK {
			t.Error(m, n, e)
		}
	}
	if g, e, _ := spec.Group(nodes(t, spec.ShowGroup(wantGroup())), 0); !reflect.DeepEqual(g, wantGroup()) || e != api.OK {
		t.Error(g, e)
	}
}

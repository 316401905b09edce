package pack_test

import (
	"reflect"
	"slices"
	"strconv"
	"testing"

	"trireme/api"
	"trireme/fit"
	"trireme/pack"
	"trireme/yard"
)

func like() api.Machine {
	return api.Machine{Group: "g", Has: api.Res{Cpu: 1000, Mem: 100, Pods: 10}, Ready: true, Labels: []api.Label{{Key: yard.Zone, Val: "z"}}}
}

func pod(name string, cpu int) api.Pod {
	return api.Pod{Name: name, Need: api.Res{Cpu: cpu, Pods: 1}, Labels: []api.Label{{Key: "app", Val: "x"}}}
}

func pods(cpus ...int) []api.Pod {
	var l []api.Pod
	for i, cpu := range cpus {
		l = append(l, pod("p"+strconv.Itoa(i), cpu))
	}
	return l
}

func TestP19_1Order(t *testing.T) {
	l := pods(100, 300, 100, 200, 300)
	l[2].Need.Mem = 90
	if got := pack.Order(l, like()); !slices.Equal(got, []int{2, 1, 4, 3, 0}) {
		t.Error(got)
	}
	if got := pack.Order(nil, like()); len(got) != 0 {
		t.Error(got)
	}
	// Shares are compared, not amounts: all of these need more than there is.
	small := like()
	small.Has.Cpu = 0
	if got := pack.Order(l, small); !slices.Equal(got, []int{0, 1, 2, 3, 4}) {
		t.Error(got)
	}
	l[1].Rank = 1000
	if got := pack.Order(l[:2], like()); !slices.Equal(got, []int{1, 0}) {
		t.Error(got)
	}
}

func TestP19_1Fresh(t *testing.T) {
	for n, name := range map[int]string{0: "g+0", 1: "g+1", 12: "g+12"} {
		want := like()
		want.Name = name
		got := pack.Fresh(like(), n)
		if !reflect.DeepEqual(got, want) {
			t.Error(n, got)
		}
	}
	l := like()
	pack.Fresh(l, 1).Labels[0].Val = "changed"
	if l.Labels[0].Val != "z" {
		t.Error("the machine shares memory with like")
	}
}

func moves(s ...string) []api.Move {
	var l []api.Move
	for i := 0; i < len(s); i += 2 {
		l = append(l, api.Move{Pod: s[i], To: s[i+1]})
	}
	return l
}

func TestP19_2Estimate(t *testing.T) {
	for i, c := range []struct {
		l     []api.Pod
		limit int
		want  []api.Move
		n     int
	}{
		{nil, 9, nil, 0},
		{pods(600, 600, 600), 9, moves("p0", "g+1", "p1", "g+2", "p2", "g+3"), 3},
		{pods(400, 600, 600, 600), 9, moves("p1", "g+1", "p2", "g+2", "p3", "g+3", "p0", "g+1"), 3},
		{pods(600, 600, 600, 400), 2, moves("p0", "g+1", "p1", "g+2", "p3", "g+1"), 2},
		{pods(600, 500, 500, 400), 9, moves("p0", "g+1", "p1", "g+2", "p2", "g+2", "p3", "g+1"), 2},
		{pods(600), 0, nil, 0},
		{pods(600), -5, nil, 0},
		{pods(1001, 5), 9, moves("p1", "g+1"), 1},
		{pods(1001), 9, nil, 0},
		{pods(1000, 1000), 1, moves("p0", "g+1"), 1},
	} {
		if got, n := pack.Estimate(nil, nil, c.l, like(), c.limit); !slices.Equal(got, c.want) || n != c.n {
			t.Error(i, got, n)
		}
	}
}

func TestP19_2EstimateIgnoresTheRoomOnOtherMachines(t *testing.T) {
	ms := []api.Machine{like(), like()}
	ms[0].Name, ms[1].Name = "g-1", "g-2"
	bs := []api.Bound{{Pod: pod("q", 1), On: "g-1"}}
	if got, n := pack.Estimate(ms, bs, pods(100), like(), 9); !slices.Equal(got, moves("p0", "g+1")) || n != 1 {
		t.Error(got, n)
	}
}

func TestP19_2EstimateRegardsTheWholeYard(t *testing.T) {
	apart := func(p api.Pod, wide bool) api.Pod {
		p.Apart, p.Wide = []api.Label{{Key: "app", Val: "x"}}, wide
		return p
	}
	l := []api.Pod{apart(pod("a", 1), false), apart(pod("b", 1), false), pod("c", 1)}
	if got, n := pack.Estimate(nil, nil, l, like(), 9); !slices.Equal(got, moves("a", "g+1", "b", "g+2", "c", "g+3")) || n != 3 {
		t.Error(got, n)
	}
	wide := []api.Pod{apart(pod("a", 1), true), apart(pod("b", 1), true)}
	if got, n := pack.Estimate(nil, nil, wide, like(), 9); !slices.Equal(got, moves("a", "g+1")) || n != 1 {
		t.Error(got, n)
	}
	other := like()
	other.Name = "g-1"
	bs := []api.Bound{{Pod: pod("q", 1), On: "g-1"}}
	if got, n := pack.Estimate([]api.Machine{other}, bs, wide, like(), 9); len(got) != 0 || n != 0 {
		t.Error("a pod of the yard is in the same zone", got, n)
	}
	// The next machine counts as a zone only for the decision about itself.
	spread := pod("s", 1)
	spread.Spread, spread.Skew = spread.Labels, 1
	other.Labels = []api.Label{{Key: yard.Zone, Val: "a"}}
	if got, n := pack.Estimate([]api.Machine{other}, bs, []api.Pod{spread}, like(), 9); !slices.Equal(got, moves("s", "g+1")) || n != 1 {
		t.Error(got, n)
	}
	two := []api.Pod{spread, spread, spread}
	two[1].Name, two[2].Name = "t", "u"
	if got, n := pack.Estimate([]api.Machine{other}, bs, two, like(), 9); !slices.Equal(got, moves("s", "g+1", "t", "g+1")) || n != 1 {
		t.Error(got, n)
	}
}

func TestP19_2EstimateChangesNoArgument(t *testing.T) {
	ms := make([]api.Machine, 1, 5)
	bs := make([]api.Bound, 1, 5)
	ms[0] = like()
	ms[0].Name, bs[0].Pod = "g-1", pod("q", 1)
	pack.Estimate(ms, bs, pods(1, 2, 3), like(), 9)
	if full := ms[:5]; full[1].Name != "" {
		t.Error("the spare capacity of the machines was used")
	}
	if full := bs[:5]; full[1].Pod.Name != "" {
		t.Error("the spare capacity of the bound pods was used")
	}
}

func TestP19_3Properties(t *testing.T) {
	l := pods(700, 20, 400, 333, 999, 1000, 1001, 50, 50, 610)
	for limit := -1; limit < 8; limit++ {
		got, n := pack.Estimate(nil, nil, l, like(), limit)
		if n > max(limit, 0) {
			t.Error("more machines than the limit", limit, n)
		}
		var ms []api.Machine
		for i := range n {
			ms = append(ms, pack.Fresh(like(), i+1))
		}
		var bs []api.Bound
		used := map[string]bool{}
		for _, m := range got {
			i := slices.IndexFunc(l, func(p api.Pod) bool { return p.Name == m.Pod })
			bs = append(bs, api.Bound{Pod: l[i], On: m.To})
			used[m.To] = true
		}
		if !fit.Feasible(ms, bs) || yard.Check(ms, bs) != api.OK || len(used) != n {
			t.Error("limit", limit, got, n)
		}
	}
}

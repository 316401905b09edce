package option_test

import (
	"math"
	"reflect"
	"slices"
	"strconv"
	"testing"

	"trireme/api"
	"trireme/option"
)

func of(name string, cpu, mem int) api.Group {
	return api.Group{Name: name, Max: 10, Price: 7, Rank: 3, Like: api.Machine{Group: name, Has: api.Res{Cpu: cpu, Mem: mem, Pods: 10}, Ready: true}}
}

func pods(cpus ...int) []api.Pod {
	var l []api.Pod
	for i, cpu := range cpus {
		l = append(l, api.Pod{Name: "p" + strconv.Itoa(i), Need: api.Res{Cpu: cpu, Pods: 1}})
	}
	return l
}

func TestP20_1Waste(t *testing.T) {
	mem := pods(0)
	mem[0].Need.Mem = 30
	huge := pods(api.MaxRes)
	for i, c := range []struct {
		l    []api.Pod
		g    api.Group
		n    int
		want int
	}{
		{pods(600, 600), of("g", 1000, 0), 2, 200},
		{pods(600, 600), of("g", 1000, 100), 2, 700},
		{mem, of("g", 1000, 100), 1, 850},
		{append(pods(1), mem...), of("g", 3, 90), 1, 666},
		{pods(1000), of("g", 1000, 0), 1, 0},
		{pods(1001), of("g", 1000, 10), 1, 500},
		{nil, of("g", 1000, 10), 3, 1000},
		{nil, of("g", 0, 0), 3, 0},
		{pods(1), of("g", 3, 3), 1, 833},
		{pods(1), of("g", 0, 1000), 1, 500},
		{pods(600), of("g", 1000, 0), 0, 0},
		{pods(600), of("g", 1000, 0), -1, 0},
		{nil, of("g", 1000, 1), math.MinInt, 0},
		{huge, of("g", api.MaxRes, api.MaxRes), 200, 997},
		{slices.Repeat(huge, 100), of("g", api.MaxRes, api.MaxRes), 200, 750},
		{nil, of("g", api.MaxRes, api.MaxRes), 200, 1000},
	} {
		if got := option.Waste(c.l, c.g.Like, c.n); got != c.want {
			t.Error(i, got)
		}
	}
}

func TestP20_2Of(t *testing.T) {
	got, ok := option.Of(nil, nil, pods(600, 600), of("g", 1000, 0), 5)
	want := api.Option{Group: "g", Count: 2, Pods: []string{"p0", "p1"}, Waste: 200, Price: 14, Rank: 3}
	if !ok || !reflect.DeepEqual(got, want) {
		t.Error(got, ok)
	}
	// The largest pods are placed first, but named in the order of the list.
	got, ok = option.Of(nil, nil, pods(100, 600, 5000, 700, 800), of("g", 1000, 0), 2)
	want = api.Option{Group: "g", Count: 2, Pods: []string{"p0", "p3", "p4"}, Waste: 100, Price: 14, Rank: 3}
	want.Waste = 1000 * (2000 - 1600) / 2000 / 2
	if !ok || !reflect.DeepEqual(got, want) {
		t.Error(got, ok)
	}
	for i, c := range []struct {
		l    []api.Pod
		room int
	}{{nil, 5}, {pods(5000), 5}, {pods(1), 0}, {pods(1), -1}} {
		if got, ok := option.Of(nil, nil, c.l, of("g", 1000, 0), c.room); ok || !reflect.DeepEqual(got, api.Option{}) {
			t.Error(i, got, ok)
		}
	}
	dear := of("g", 1000, 0)
	dear.Price = api.MaxRes
	if got, _ := option.Of(nil, nil, pods(600, 600), dear, 5); got.Price != api.MaxRes || got.Count != 2 {
		t.Error(got)
	}
	dear.Price = api.MaxRes / 2
	if got, _ := option.Of(nil, nil, pods(600, 600), dear, 5); got.Price != api.MaxRes {
		t.Error(got)
	}
}

func TestP20_2OfRegardsTheYard(t *testing.T) {
	far := pods(1)
	far[0].Apart, far[0].Wide = []api.Label{{Key: "a", Val: "b"}}, true
	g := of("g", 1000, 0)
	g.Like.Labels = []api.Label{{Key: "zone", Val: "z"}}
	m := g.Like
	m.Name = "g-1"
	bs := []api.Bound{{Pod: api.Pod{Name: "q", Need: api.Res{Pods: 1}, Labels: far[0].Apart}, On: "g-1"}}
	if got, ok := option.Of([]api.Machine{m}, bs, far, g, 5); ok {
		t.Error(got)
	}
	if names := option.Hopeless([]api.Machine{m}, bs, far, []api.Group{g}); !slices.Equal(names, []string{"p0"}) {
		t.Error(names)
	}
	if got, ok := option.Of([]api.Machine{m}, nil, far, g, 5); !ok {
		t.Error(got)
	}
}

func TestP20_3All(t *testing.T) {
	gs := []api.Group{of("a", 1000, 0), of("tiny", 1, 0), of("b", 2000, 0), of("c", 500, 0)}
	l := pods(600, 600, 400)
	names := func(rooms ...int) string {
		s := ""
		for _, o := range option.All(nil, nil, l, gs, rooms) {
			s += o.Group + strconv.Itoa(o.Count) + " "
		}
		return s
	}
	for want, rooms := range map[string][]int{
		"a2 b1 c1 ":  {9, 9, 9, 9},
		"a1 b1 ":     {1, 1, 1},
		"b1 ":        {0, 5, 2, -1},
		"":           nil,
		"a2 b1 c1  ": {9, 9, 9, 9, 9, 9},
	} {
		if got := names(rooms...); got != want && got+" " != want {
			t.Error(rooms, got)
		}
	}
	if got := option.All(nil, nil, l, nil, []int{1}); len(got) != 0 {
		t.Error(got)
	}
}

func TestP20_3Hopeless(t *testing.T) {
	gs := []api.Group{of("a", 1000, 0), of("b", 500, 50)}
	l := pods(600, 1001, 400, 1000, 2000)
	l[2].Need.Mem = 51
	if got := option.Hopeless(nil, nil, l, gs); !slices.Equal(got, []string{"p1", "p2", "p4"}) {
		t.Error(got)
	}
	if got := option.Hopeless(nil, nil, l, nil); !slices.Equal(got, []string{"p0", "p1", "p2", "p3", "p4"}) {
		t.Error(got)
	}
	if got := option.Hopeless(nil, nil, nil, gs); len(got) != 0 {
		t.Error(got)
	}
	// Each pod is asked about alone: two pods that exclude each other are not hopeless.
	two := pods(1, 1)
	for i := range two {
		two[i].Labels, two[i].Apart = []api.Label{{Key: "a", Val: "b"}}, []api.Label{{Key: "a", Val: "b"}}
	}
	if got := option.Hopeless(nil, nil, two, gs); len(got) != 0 {
		t.Error(got)
	}
}

func TestP20_4Properties(t *testing.T) {
	l := pods(700, 20, 400, 333, 999, 1000, 1001, 50, 50, 610)
	for room := -1; room < 9; room++ {
		o, ok := option.Of(nil, nil, l, of("g", 1000, 0), room)
		if o.Count > max(room, 0) || ok != (room > 0) {
			t.Error(room, o)
		}
		last := -1
		for _, name := range o.Pods {
			i := slices.IndexFunc(l, func(p api.Pod) bool { return p.Name == name })
			if i <= last {
				t.Error("not in order, twice, or not there", name)
			}
			last = i
		}
	}
}

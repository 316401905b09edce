package similar_test

import (
	"math"
	"slices"
	"testing"

	"trireme/api"
	"trireme/similar"
)

func of(name, zone string) api.Group {
	g := api.Group{Name: name, Max: 5, Like: api.Machine{
		Group: name, Has: api.Res{Cpu: 1000, Pods: 5}, Ready: true, Labels: []api.Label{{Key: "a", Val: "b"}},
		Taints: []api.Taint{{Key: "t", Effect: api.Prefer}, {Key: "u", Effect: api.NoExecute}},
	}}
	if zone != "" {
		g.Like.Labels = append(g.Like.Labels, api.Label{Key: "zone", Val: zone})
	}
	return g
}

func TestP22_1Alike(t *testing.T) {
	a := of("a", "x")
	for i, change := range []func(g *api.Group){
		func(g *api.Group) {}, func(g *api.Group) { *g = of("b", "y") }, func(g *api.Group) { *g = of("b", "") },
		func(g *api.Group) { g.Min, g.Max, g.Price, g.Rank = 1, 2, 3, 4 },
	} {
		b := of("b", "x")
		change(&b)
		if !similar.Alike(a, b) || !similar.Alike(b, a) {
			t.Error("alike", i)
		}
	}
	for i, change := range []func(g *api.Group){
		func(g *api.Group) { g.Like.Has.Cpu++ }, func(g *api.Group) { g.Like.Has.Mem++ }, func(g *api.Group) { g.Like.Has.Disk++ }, func(g *api.Group) { g.Like.Has.Pods++ }, func(g *api.Group) { g.Like.Has.Dev++ },
		func(g *api.Group) { g.Like.Taints = g.Like.Taints[:1] }, func(g *api.Group) { slices.Reverse(g.Like.Taints) }, func(g *api.Group) { g.Like.Taints[0].Val = "v" },
		func(g *api.Group) { g.Like.Labels[0].Val = "c" }, func(g *api.Group) { g.Like.Labels = g.Like.Labels[1:] },
		func(g *api.Group) { g.Like.Labels = append(g.Like.Labels, api.Label{Key: "zonf"}) },
	} {
		b := of("b", "x")
		change(&b)
		if similar.Alike(a, b) || similar.Alike(b, a) {
			t.Error("not alike", i)
		}
	}
}

func TestP22_2Of(t *testing.T) {
	other := of("c", "x")
	other.Like.Has.Cpu = 2000
	gs := []api.Group{of("a", "x"), other, of("b", "y"), of("d", "")}
	for name, want := range map[string][]int{"a": {0, 2, 3}, "b": {0, 2, 3}, "c": {1}, "d": {0, 2, 3}, "e": nil, "": nil} {
		if got := similar.Of(gs, name); !slices.Equal(got, want) {
			t.Error(name, got)
		}
	}
	if got := similar.Of(nil, "a"); len(got) != 0 {
		t.Error(got)
	}
	twice := of("c", "z")
	if got := similar.Of(append(gs, twice), "c"); !slices.Equal(got, []int{1}) {
		t.Error("the first group of that name", got)
	}
}

func TestP22_3Share(t *testing.T) {
	many := make([]int, 17)
	for i, c := range []struct {
		n            int
		sizes, mosts []int
		want         []int
	}{
		{3, []int{2, 0, 1}, []int{9, 9, 9}, []int{0, 2, 1}},
		{3, []int{0, 0}, []int{9, 9}, []int{2, 1}},
		{3, []int{5, 5, 4}, []int{9, 9, 9}, []int{1, 1, 1}},
		{9, []int{0, 0}, []int{2, 3}, []int{2, 3}},
		{4, []int{0, 3}, []int{2, 9}, []int{2, 2}},
		{3, []int{3, 5}, []int{2, 9}, []int{0, 3}},
		{0, []int{1, 2}, []int{3, 4}, []int{0, 0}},
		{math.MaxInt, []int{0, 200}, []int{200, 200}, []int{200, 0}},
		{5, nil, nil, nil},
		{5, []int{200, 0}, []int{0, 200}, []int{0, 5}},
		{17, many[:16], slices.Repeat([]int{9}, 16), append([]int{2}, slices.Repeat([]int{1}, 15)...)},
		{1, []int{1}, []int{2, 3}, nil},
		{1, []int{1, 2}, []int{3}, nil},
		{1, nil, []int{3}, nil},
		{1, many, many, nil},
		{1, []int{-1}, []int{3}, nil},
		{1, []int{201}, []int{3}, nil},
		{1, []int{1}, []int{-1}, nil},
		{1, []int{1}, []int{201}, nil},
		{0, []int{1, 2}, []int{3, math.MinInt}, nil},
		{-1, []int{1}, []int{3}, nil},
		{math.MinInt, []int{1}, []int{3}, nil},
	} {
		sizes, mosts := slices.Clone(c.sizes), slices.Clone(c.mosts)
		if got := similar.Share(c.n, sizes, mosts); !slices.Equal(got, c.want) {
			t.Error(i, got)
		}
		if !slices.Equal(sizes, c.sizes) || !slices.Equal(mosts, c.mosts) {
			t.Error(i, "an argument was changed")
		}
	}
}

func TestP22_4Properties(t *testing.T) {
	for n := range 40 {
		sizes, mosts := []int{n % 7, 3, 0, n % 5}, []int{9, 2, n % 11, 12}
		got := similar.Share(n, sizes, mosts)
		sum, room := 0, 0
		for i := range got {
			sum += got[i]
			room += max(0, mosts[i]-sizes[i])
			for j := range got {
				a, b := sizes[i]+got[i], sizes[j]+got[j]
				if a < mosts[i] && b < mosts[j] && b > a+1 && got[j] > 0 {
					t.Error("uneven", n, sizes, mosts, got)
				}
			}
		}
		if sum != min(n, room) {
			t.Error("not all", n, sum, room)
		}
	}
}

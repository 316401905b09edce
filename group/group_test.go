package group_test

import (
	"math"
	"reflect"
	"slices"
	"strconv"
	"strings"
	"testing"

	"trireme/api"
	"trireme/group"
)

func of(name string) api.Group {
	return api.Group{Name: name, Min: 1, Max: 5, Like: api.Machine{
		Group: name, Has: api.Res{Cpu: 1000, Pods: 5}, Ready: true, Labels: []api.Label{{Key: "a", Val: "b"}}, Taints: []api.Taint{{Key: "t", Effect: api.Prefer}},
	}}
}

func TestP16_1Right(t *testing.T) {
	var most []api.Group
	for i := range 17 {
		most = append(most, of("g"+strconv.Itoa(i)))
	}
	for _, l := range [][]api.Group{nil, most[:16], {of("a"), of("b")}, {of(strings.Repeat("x", 48))}, {of(strings.Repeat("é", 24))}} {
		if !group.Right(l) {
			t.Error(l)
		}
	}
	bad := of("a")
	bad.Max = 0
	other := of("a")
	other.Rank = 3
	for i, l := range [][]api.Group{most, {{}}, {of("b"), bad}, {of("a"), of("b"), other}, {of(strings.Repeat("x", 49))}, {of(strings.Repeat("é", 25))}, {of("")}, {of("a b")}} {
		if group.Right(l) {
			t.Error(i, l)
		}
	}
}

func TestP16_1FindAndNames(t *testing.T) {
	l := []api.Group{of("b"), of("a"), of("b"), {}}
	for name, want := range map[string]int{"b": 0, "a": 1, "": 3, "c": -1} {
		if got := group.Find(l, name); got != want {
			t.Error(name, got)
		}
	}
	if got := group.Names(l); !slices.Equal(got, []string{"b", "a", "b", ""}) {
		t.Error(got)
	}
	if len(group.Names(nil)) != 0 || group.Find(nil, "") != -1 {
		t.Error("no groups")
	}
}

func TestP16_2Machine(t *testing.T) {
	g := of("g")
	for n, name := range map[int]string{1: "g-1", 7: "g-7", 10: "g-10", 999999999: "g-999999999"} {
		want := g.Like
		want.Name = name
		if got := group.Machine(g, n); !reflect.DeepEqual(got, want) {
			t.Error(n, got)
		}
	}
	for _, n := range []int{0, -1, 1000000000, math.MaxInt, math.MinInt} {
		if got := group.Machine(g, n); !reflect.DeepEqual(got, api.Machine{}) {
			t.Error(n, got)
		}
	}
	m := group.Machine(g, 1)
	m.Labels[0].Val, m.Taints[0].Key = "x", "x"
	if g.Like.Labels[0].Val != "b" || g.Like.Taints[0].Key != "t" {
		t.Error("the machine shares memory with the group")
	}
}

func TestP16_2Number(t *testing.T) {
	g := of("g")
	for name, want := range map[string]int{
		"g-1": 1, "g-7": 7, "g-10": 10, "g-999999999": 999999999,
		"g-0": 0, "g-07": 0, "g-": 0, "g": 0, "": 0, "g-1000000000": 0, "g--1": 0, "g-+1": 0, "g-1x": 0, "g-x": 0, "h-1": 0, "gg-1": 0, "g-1 ": 0, "-1": 0, "g-1-1": 0,
		"g-9223372036854775808": 0, "g-18446744073709551617": 0, "g-00": 0, "g_1": 0,
	} {
		if got := group.Number(g, name); got != want {
			t.Error(name, got)
		}
	}
	if group.Number(of("g-1"), "g-1-5") != 5 || group.Number(of("g-1"), "g-1") != 0 {
		t.Error("a group whose name contains a hyphen")
	}
}

func TestP16_3Of(t *testing.T) {
	ms := []api.Machine{{Name: "g-2", Group: "g"}, {Name: "x"}, {Name: "h-1", Group: "h"}, {Name: "odd", Group: "g"}, {Name: "g-3", Group: "h"}}
	for name, want := range map[string][]string{"g": {"g-2", "odd"}, "h": {"h-1", "g-3"}, "": {"x"}, "z": nil} {
		if got := group.Of(ms, name); !slices.Equal(got, want) {
			t.Error(name, got)
		}
	}
}

func TestP16_4NamesAreDistinct(t *testing.T) {
	seen := map[string]bool{}
	for _, name := range []string{"g", "g-1", "g-1-1", "h"} {
		for _, n := range []int{1, 2, 11, 111, 999999999} {
			g := of(name)
			m := group.Machine(g, n)
			if seen[m.Name] || group.Number(g, m.Name) != n {
				t.Error(m.Name, group.Number(g, m.Name))
			}
			seen[m.Name] = true
		}
	}
}

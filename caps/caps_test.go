package caps_test

import (
	"math"
	"testing"

	"trireme/api"
	"trireme/caps"
)

func machines(n, cpu, mem int) []api.Machine {
	var l []api.Machine
	for range n {
		l = append(l, machine(cpu, mem))
	}
	return l
}

func machine(cpu, mem int) api.Machine {
	return api.Machine{Has: api.Res{Cpu: cpu, Mem: mem, Disk: 7, Pods: 9, Dev: 3}}
}

func TestP23_1Right(t *testing.T) {
	const most = 1 << 58
	for _, c := range []api.Caps{{}, {Nodes: most, Cpu: most, Mem: most}, {Nodes: 1}} {
		if !caps.Right(c) {
			t.Error(c)
		}
	}
	for _, c := range []api.Caps{{Nodes: -1}, {Cpu: -1}, {Mem: -1}, {Nodes: most + 1}, {Cpu: most + 1}, {Mem: most + 1}, {Mem: math.MaxInt}, {Cpu: math.MinInt}} {
		if caps.Right(c) {
			t.Error(c)
		}
	}
}

func TestP23_1Within(t *testing.T) {
	ms := append(machines(2, 1000, 10), machine(500, 5))
	for i, c := range []struct {
		c    api.Caps
		want bool
	}{
		{api.Caps{}, true}, {api.Caps{Nodes: 3, Cpu: 2500, Mem: 25}, true},
		{api.Caps{Nodes: 2}, false}, {api.Caps{Cpu: 2499}, false}, {api.Caps{Mem: 24}, false}, {api.Caps{Nodes: 9, Cpu: 9999, Mem: 24}, false},
	} {
		if got := caps.Within(c.c, ms); got != c.want {
			t.Error(i, got)
		}
	}
	if !caps.Within(api.Caps{Nodes: 1}, nil) {
		t.Error("an empty cluster")
	}
}

func TestP23_2Room(t *testing.T) {
	huge := machine(api.MaxRes, api.MaxRes)
	for i, c := range []struct {
		c    api.Caps
		ms   []api.Machine
		like api.Machine
		want int
	}{
		{api.Caps{Nodes: 5, Cpu: 4000}, machines(2, 1000, 0), machine(1000, 0), 2},
		{api.Caps{Nodes: 5, Cpu: 9000}, machines(2, 1000, 0), machine(1000, 0), 3},
		{api.Caps{Mem: 100}, machines(2, 1, 20), machine(1000, 30), 2},
		{api.Caps{Mem: 99, Cpu: 1000000}, machines(2, 1, 20), machine(1000, 30), 1},
		{api.Caps{}, machines(2, 1, 20), machine(1000, 30), 198},
		{api.Caps{}, nil, machine(1000, 30), 200},
		{api.Caps{Nodes: 1000}, nil, machine(0, 0), 200},
		{api.Caps{Cpu: 5}, nil, machine(0, 0), 200},
		{api.Caps{Cpu: 5}, nil, machine(6, 0), 0},
		{api.Caps{Nodes: 1}, machines(2, 0, 0), machine(0, 0), 0},
		{api.Caps{Cpu: 5}, machines(2, 3, 0), machine(0, 0), 0},
		{api.Caps{Mem: 5}, machines(2, 0, 3), machine(1, 0), 0},
		{api.Caps{Cpu: 6}, machines(2, 3, 0), machine(0, 0), 198},
		{api.Caps{}, machines(200, 1, 1), machine(1, 1), 0},
		{api.Caps{Nodes: 200}, machines(199, 1, 1), machine(1, 1), 1},
		{api.Caps{Cpu: 1 << 58}, machines(100, api.MaxRes, api.MaxRes), huge, 100},
		{api.Caps{Cpu: 120 * api.MaxRes}, machines(100, api.MaxRes, api.MaxRes), huge, 20},
	} {
		if got := caps.Room(c.c, c.ms, c.like); got != c.want {
			t.Error(i, got)
		}
	}
}

func TestP23_3Properties(t *testing.T) {
	for _, c := range []api.Caps{{}, {Nodes: 7}, {Cpu: 9000}, {Mem: 55}, {Nodes: 50, Cpu: 12345, Mem: 99}, {Nodes: 300}} {
		for _, like := range []api.Machine{machine(700, 3), machine(1, 20), machine(5000, 0)} {
			ms := machines(3, 1000, 10)
			for range caps.Room(c, ms, like) {
				ms = append(ms, like)
			}
			if !caps.Within(c, ms) || len(ms) > api.MaxNodes {
				t.Error("not within", c, len(ms))
			}
			if caps.Within(c, append(ms, like)) && len(ms) < api.MaxNodes {
				t.Error("room for more", c, len(ms))
			}
		}
	}
}

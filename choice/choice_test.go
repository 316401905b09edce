package choice_test

import (
	"testing"

	"trireme/api"
	"trireme/choice"
)

func TestMachine(t *testing.T) {
	machine := func(name string, taints ...api.Taint) api.Machine {
		return api.Machine{Name: name, Has: api.Res{Cpu: 1000, Pods: 9}, Ready: true, Taints: taints}
	}
	slow := api.Taint{Key: "slow", Effect: api.Prefer}
	ms := []api.Machine{machine("a", slow), machine("b"), machine("c"), machine("d")}
	on := func(name string, cpu int, on string) api.Bound {
		return api.Bound{Pod: api.Pod{Name: name, Need: api.Res{Cpu: cpu, Pods: 1}}, On: on}
	}
	bs := []api.Bound{on("p", 100, "b"), on("q", 50, "c"), on("r", 50, "d")}
	p := api.Pod{Name: "p", Need: api.Res{Pods: 1}}
	for i, c := range []struct {
		names []string
		want  string
	}{
		{nil, ""}, {[]string{"a"}, "a"}, {[]string{"a", "c"}, "c"}, {[]string{"c", "d"}, "c"}, {[]string{"d", "c"}, "d"}, {[]string{"a", "b", "c", "d"}, "b"},
	} {
		if got := choice.Machine(ms, bs, p, c.names); got != c.want {
			t.Error(i, got)
		}
	}
}

package clone_test

import (
	"reflect"
	"testing"

	"trireme/api"
	"trireme/clone"
)

func pod() api.Pod {
	l := func() []api.Label { return []api.Label{{Key: "a", Val: "b"}} }
	return api.Pod{Name: "p", Labels: l(), Select: l(), Apart: l(), Spread: l(), Ports: []int{1}, Bears: []api.Toleration{{Any: true}}, Terms: []api.Term{{Key: "k", Vals: []string{"v"}}}}
}

func machine() api.Machine {
	return api.Machine{Name: "m", Labels: []api.Label{{Key: "a"}}, Taints: []api.Taint{{Key: "t"}}}
}

// wipe sets all elements of all slices within v to zero.
func wipe(v reflect.Value) {
	switch v.Kind() {
	case reflect.Slice:
		v = v.Slice(0, v.Cap())
		for i := range v.Len() {
			wipe(v.Index(i))
			v.Index(i).SetZero()
		}
	case reflect.Struct:
		for i := range v.NumField() {
			wipe(v.Field(i))
		}
	}
}

func check[T any](t *testing.T, make func() T, copied func(T) T) {
	t.Helper()
	x := make()
	y := copied(x)
	if !reflect.DeepEqual(x, y) {
		t.Errorf("%v became %v", x, y)
	}
	wipe(reflect.ValueOf(&y).Elem())
	if !reflect.DeepEqual(x, make()) {
		t.Errorf("the copy shares memory: %v", x)
	}
}

func TestCopiesShareNoMemory(t *testing.T) {
	check(t, pod, clone.Pod)
	check(t, machine, clone.Machine)
	check(t, func() []api.Machine { return []api.Machine{machine(), machine()} }, clone.Machines)
	check(t, func() []api.Bound { return []api.Bound{{Pod: pod(), On: "m"}, {Pod: pod()}} }, clone.Bounds)
	check(t, func() []api.Group { return []api.Group{{Name: "g", Like: machine()}, {Like: machine()}} }, clone.Groups)
	check(t, func() []api.Budget { return []api.Budget{{Name: "b", Match: []api.Label{{Key: "a"}}}} }, clone.Budgets)
}

package taints_test

import (
	"reflect"
	"strconv"
	"strings"
	"testing"

	"trireme/api"
	"trireme/taints"
)

func taint(key, val string, effect int) api.Taint {
	return api.Taint{Key: key, Val: val, Effect: effect}
}

func same(a, b []api.Taint) bool {
	return len(a)+len(b) == 0 || reflect.DeepEqual(a, b)
}

func TestP6_1Right(t *testing.T) {
	var most []api.Taint
	for i := range 16 {
		most = append(most, taint("k"+strconv.Itoa(i), "", api.Prefer))
	}
	for _, l := range [][]api.Taint{
		nil, most,
		{taint("a", "", api.NoSchedule), taint("a", "b", api.Prefer), taint("a", "b", api.NoExecute)},
		{taint("b", "x", api.NoExecute), taint("a", "x", api.NoExecute)},
	} {
		if !taints.Right(l) {
			t.Error(l)
		}
	}
	for _, l := range [][]api.Taint{
		append(most[:16:16], taint("z", "", api.Prefer)),
		{taint("", "x", api.Prefer)}, {taint("a b", "", api.Prefer)}, {taint("a", "b c", api.Prefer)},
		{taint("a", "", 0)}, {taint("a", "", 4)}, {taint("a", "", -1)},
		{taint("a", "x", api.Prefer), taint("b", "", api.Prefer), taint("a", "y", api.Prefer)},
		{taint("a", "", api.NoExecute), taint("a", "", api.NoExecute)},
		{taint("a", "", api.NoSchedule), taint(strings.Repeat("x", 65), "", api.NoSchedule)},
	} {
		if taints.Right(l) {
			t.Error(l)
		}
	}
}

func TestP6_1RightBears(t *testing.T) {
	x := api.Toleration{Key: "a", Val: "b", Effect: api.Prefer}
	var most []api.Toleration
	for range 16 {
		most = append(most, x)
	}
	for _, l := range [][]api.Toleration{
		nil, most, {{Key: "a"}}, {{Any: true}}, {{Key: "a", Any: true, Effect: 3}}, {{Key: "a", Val: "b", Effect: 1}, {Any: true, Effect: 2}},
	} {
		if !taints.RightBears(l) {
			t.Error(l)
		}
	}
	for _, l := range [][]api.Toleration{
		append(most[:16:16], x), {{}}, {{Val: "b"}}, {{Key: "a", Val: "b", Any: true}}, {{Val: "b", Any: true}},
		{{Key: "a b"}}, {{Key: "a", Val: "("}}, {{Key: "a", Effect: 4}}, {{Key: "a", Effect: -1}}, {x, {Key: "a", Effect: 4}},
	} {
		if taints.RightBears(l) {
			t.Error(l)
		}
	}
}

func TestP6_2Bears(t *testing.T) {
	gpu := taint("gpu", "yes", api.NoSchedule)
	for _, b := range []api.Toleration{
		{Key: "gpu", Val: "yes"}, {Key: "gpu", Any: true}, {Any: true}, {Key: "gpu", Val: "yes", Effect: api.NoSchedule},
		{Key: "gpu", Any: true, Effect: api.NoSchedule}, {Any: true, Effect: api.NoSchedule}, {Val: "yes"},
	} {
		if !taints.Bears(b, gpu) {
			t.Error(b)
		}
	}
	for _, b := range []api.Toleration{
		{Key: "gpu", Val: "no"}, {Key: "gpu"}, {}, {Key: "cpu", Any: true}, {Key: "cpu", Val: "yes"}, {Val: "no"},
		{Any: true, Effect: api.Prefer}, {Key: "gpu", Val: "yes", Effect: api.NoExecute},
	} {
		if taints.Bears(b, gpu) {
			t.Error(b)
		}
	}
	if !taints.Bears(api.Toleration{Key: "a"}, taint("a", "", api.Prefer)) {
		t.Error("an empty value equals an empty value")
	}
}

func TestP6_2Unborne(t *testing.T) {
	l := []api.Taint{taint("a", "1", api.Prefer), taint("b", "2", api.NoSchedule), taint("a", "1", api.NoExecute), taint("c", "", api.Prefer), taint("c", "", api.NoSchedule)}
	bears := []api.Toleration{{Key: "a", Val: "1", Effect: api.NoExecute}, {Key: "c", Any: true, Effect: api.Prefer}}
	for effect, want := range map[int][]api.Taint{
		0:              {l[0], l[1], l[4]},
		api.NoSchedule: {l[1], l[4]},
		api.Prefer:     {l[0]},
		api.NoExecute:  nil,
		7:              nil,
	} {
		if got := taints.Unborne(bears, l, effect); !same(got, want) {
			t.Errorf("effect %d: %v", effect, got)
		}
	}
	if got := taints.Unborne(nil, l, 0); !same(got, l) || &got[0] == &l[0] {
		t.Error("a new list of all taints", got)
	}
}

func TestP6_2AllowsAndPrefers(t *testing.T) {
	no, out, prefer := taint("a", "1", api.NoSchedule), taint("b", "2", api.NoExecute), taint("c", "3", api.Prefer)
	all := []api.Taint{prefer, no, out, taint("d", "", api.Prefer)}
	a, b := api.Toleration{Key: "a", Any: true}, api.Toleration{Key: "b", Val: "2"}
	for _, c := range []struct {
		bears   []api.Toleration
		l       []api.Taint
		allows  bool
		prefers int
	}{
		{nil, nil, true, 0},
		{nil, []api.Taint{prefer}, true, 1},
		{nil, []api.Taint{no}, false, 0},
		{nil, []api.Taint{out}, false, 0},
		{nil, all, false, 2},
		{[]api.Toleration{a}, all, false, 2},
		{[]api.Toleration{b}, all, false, 2},
		{[]api.Toleration{a, b}, all, true, 2},
		{[]api.Toleration{b, a, {Key: "c", Any: true}}, all, true, 1},
		{[]api.Toleration{{Any: true}}, all, true, 0},
		{[]api.Toleration{{Any: true, Effect: api.NoExecute}}, all, false, 2},
	} {
		if taints.Allows(c.bears, c.l) != c.allows || taints.Prefers(c.bears, c.l) != c.prefers {
			t.Error(c.bears, c.l)
		}
	}
}

func TestP6_3AddAndDrop(t *testing.T) {
	a1, a2, b1 := taint("a", "1", api.NoSchedule), taint("a", "2", api.Prefer), taint("b", "3", api.NoSchedule)
	l := []api.Taint{a1, a2, b1}
	for _, c := range []struct{ got, want []api.Taint }{
		{taints.Add(nil, a1), []api.Taint{a1}},
		{taints.Add(l, taint("c", "", api.Prefer)), []api.Taint{a1, a2, b1, taint("c", "", api.Prefer)}},
		{taints.Add(l, taint("a", "9", api.NoSchedule)), []api.Taint{a2, b1, taint("a", "9", api.NoSchedule)}},
		{taints.Add(l, taint("a", "1", api.NoExecute)), []api.Taint{a1, a2, b1, taint("a", "1", api.NoExecute)}},
		{taints.Add(l, taint("a", "", 0)), []api.Taint{a1, a2, b1, taint("a", "", 0)}},
		{taints.Add([]api.Taint{a1, a1, b1, a1}, a1), []api.Taint{b1, a1}},
		{taints.Drop(l, "a", 0), []api.Taint{b1}},
		{taints.Drop(l, "a", api.Prefer), []api.Taint{a1, b1}},
		{taints.Drop(l, "b", api.Prefer), l},
		{taints.Drop(l, "c", 0), l},
		{taints.Drop(l, "", 0), l},
		{taints.Drop([]api.Taint{a1}, "a", 0), nil},
		{taints.Drop(nil, "a", 0), nil},
	} {
		if !same(c.got, c.want) {
			t.Errorf("got %v, want %v", c.got, c.want)
		}
	}
}

func TestP6_3AddAndDropReturnNewMemory(t *testing.T) {
	spare := taint("spare", "", api.Prefer)
	back := []api.Taint{taint("a", "1", api.NoSchedule), taint("b", "", api.Prefer), spare}
	want := append([]api.Taint(nil), back...)
	for _, got := range [][]api.Taint{taints.Add(back[:2], taint("c", "", 1)), taints.Drop(back[:2], "b", 0), taints.Drop(back[:2], "x", 1), taints.Unborne(nil, back[:2], 0)} {
		got = got[:cap(got)]
		for i := range got {
			got[i] = taint("new", "new", 2)
		}
		if !reflect.DeepEqual(back, want) {
			t.Fatal("the argument was changed", back)
		}
	}
}

func TestP6_4Properties(t *testing.T) {
	l := []api.Taint{taint("a", "1", api.NoSchedule), taint("a", "1", api.Prefer), taint("b", "", api.NoExecute)}
	bears := []api.Toleration{{Key: "a", Effect: api.Prefer, Any: true}, {Key: "b"}, {Any: true}}
	for n := range bears {
		for effect := range 4 {
			more := taints.Unborne(bears[:n+1], l, effect)
			if len(more) > len(taints.Unborne(bears[:n], l, effect)) {
				t.Error("an additional taint", n, effect)
			}
		}
	}
	x := taint("c", "y", api.NoExecute)
	if got := taints.Drop(taints.Add(l, x), x.Key, 0); !same(got, l) {
		t.Error(got)
	}
}

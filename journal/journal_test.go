package journal_test

import (
	"math"
	"reflect"
	"slices"
	"strings"
	"testing"

	"trireme/api"
	"trireme/cloud"
	"trireme/journal"
	"trireme/world"
)

var named = []string{"drop", "ready", "unready", "hold", "free", "evict", "delete", "fail", "break", "mend"}

func pod(name string, cpu int) api.Pod {
	return api.Pod{Name: name, Need: api.Res{Cpu: cpu, Pods: 1}, Labels: []api.Label{{Key: "app", Val: "x"}}}
}

func taint(name string, t api.Taint) journal.Entry {
	return journal.Entry{What: "taint", Name: name, Taint: t}
}

// all are valid entries of all kinds, and their text.
func all() ([]journal.Entry, string) {
	l := []journal.Entry{
		{What: "pod", Pod: pod("p", 250)}, taint("m", api.Taint{Key: "k", Val: "v", Effect: api.NoSchedule}), taint("m", api.Taint{Key: "k", Effect: api.Prefer}), taint("m", api.Taint{Key: "k", Val: "w", Effect: api.NoExecute}),
		{What: "untaint", Name: "m", Taint: api.Taint{Key: "k"}}, {What: "increase", Name: "g", N: 0}, {What: "decrease", Name: "g", N: 1000}, {What: "pass", N: 1}, {What: "pass", N: 100},
	}
	text := "(pod p (need 250m 0 0 0) (label app x))\n(taint m k v no)\n(taint m k \"\" prefer)\n(taint m k w out)\n(untaint m k)\n(increase g 0)\n(decrease g 1000)\n(pass 1)\n(pass 100)\n"
	for _, what := range named {
		l = append(l, journal.Entry{What: what, Name: "é-1"})
		text += "(" + what + " é-1)\n"
	}
	return l, text
}

func TestP36_1Right(t *testing.T) {
	l, _ := all()
	for _, e := range l {
		if !journal.Right(e) {
			t.Error(e)
		}
		e.Pod.Ports, e.Pod.Terms = []int{}, []api.Term{}
		if !journal.Right(e) {
			t.Error("empty slices are zero", e)
		}
	}
	for _, e := range l {
		for i, change := range []func(e *journal.Entry){
			func(e *journal.Entry) { e.What = "x" }, func(e *journal.Entry) { e.What = "" }, func(e *journal.Entry) { e.What = strings.ToUpper(e.What) },
			func(e *journal.Entry) { e.Name += " " }, func(e *journal.Entry) { e.N = -1 }, func(e *journal.Entry) { e.N = 1001 }, func(e *journal.Entry) { e.N = math.MaxInt },
			func(e *journal.Entry) { e.Pod.Rank = 1001 }, func(e *journal.Entry) { e.Pod.Local, e.Pod.Need.Pods = true, 0 }, func(e *journal.Entry) { e.Pod.Apart, e.Pod.Name = []api.Label{{Key: "a"}}, "" },
			func(e *journal.Entry) { e.Taint.Effect = 7 }, func(e *journal.Entry) { e.Taint.Val = "a b" }, func(e *journal.Entry) { e.Taint.Key = "(" },
		} {
			bad := e
			change(&bad)
			if journal.Right(bad) {
				t.Error(i, bad)
			}
			if got := journal.Show([]journal.Entry{bad}); got != "" {
				t.Error(i, got)
			}
		}
	}
}

func TestP36_1FieldsThatTheCaseDoesNotMentionAreZero(t *testing.T) {
	l, _ := all()
	for _, e := range l {
		has := func(kinds ...string) bool { return slices.Contains(kinds, e.What) }
		var changes []func(e *journal.Entry)
		if has("pod", "pass") {
			changes = append(changes, func(e *journal.Entry) { e.Name = "a" })
		} else {
			changes = append(changes, func(e *journal.Entry) { e.Name = "" })
		}
		if !has("increase", "decrease", "pass") {
			changes = append(changes, func(e *journal.Entry) { e.N = 1 })
		}
		if !has("pod") {
			changes = append(changes, func(e *journal.Entry) { e.Pod = pod("z", 1) }, func(e *journal.Entry) { e.Pod.Daemon = true }, func(e *journal.Entry) { e.Pod.Owner = "o" }, func(e *journal.Entry) { e.Pod.Ports = []int{1} }, func(e *journal.Entry) { e.Pod.Skew = 1 })
		} else {
			changes = append(changes, func(e *journal.Entry) { e.Pod = api.Pod{} })
		}
		if has("taint") {
			changes = append(changes, func(e *journal.Entry) { e.Taint.Effect = 0 })
		} else {
			changes = append(changes, func(e *journal.Entry) { e.Taint.Effect = 1 }, func(e *journal.Entry) { e.Taint.Val = "v" })
		}
		if has("taint", "untaint") {
			changes = append(changes, func(e *journal.Entry) { e.Taint.Key = "" })
		} else {
			changes = append(changes, func(e *journal.Entry) { e.Taint.Key = "k" })
		}
		if has("pass") {
			changes = append(changes, func(e *journal.Entry) { e.N = 0 }, func(e *journal.Entry) { e.N = 101 })
		}
		for i, change := range changes {
			bad := e
			change(&bad)
			if journal.Right(bad) {
				t.Error(i, bad)
			}
		}
	}
}

func TestP36_1Show(t *testing.T) {
	l, text := all()
	if got := journal.Show(l); got != text {
		t.Errorf("got %q, want %q", got, text)
	}
	mixed := []journal.Entry{{}, {What: "pass", N: 3}, {What: "drop"}, {What: "drop", Name: "p"}, {What: "pass"}}
	if got := journal.Show(mixed); got != "(pass 3)\n(drop p)\n" {
		t.Errorf("%q", got)
	}
	if got := journal.Show(nil); got != "" {
		t.Errorf("%q", got)
	}
}

func TestP36_2Parse(t *testing.T) {
	if got, e, at := journal.Parse("(pod p (need 0 0 0 0)), (pass 2)"); len(got) != 0 || e != api.ErrForm || at != 22 {
		t.Error("a comma is a word", got, e, at)
	}
	got, e, at := journal.Parse("(pod p (need 0 0 0 0)) (pass 02) ; c\n(evict p)(taint m k \"\" out)")
	want := []journal.Entry{{What: "pod", Pod: api.Pod{Name: "p", Need: api.Res{Pods: 1}}}, {What: "pass", N: 2}, {What: "evict", Name: "p"}, taint("m", api.Taint{Key: "k", Effect: api.NoExecute})}
	if !reflect.DeepEqual(got, want) || e != api.OK || at != 0 {
		t.Error(got, e, at)
	}
	if got, e, at := journal.Parse(" ; nothing"); len(got) != 0 || e != api.OK || at != 0 {
		t.Error(got, e, at)
	}
}

func TestP36_2ParseErrors(t *testing.T) {
	cases := map[string]api.Errno{ // with a mark ^ at the position
		"^(x": api.ErrOpen, "x ^)": api.ErrClose, "x ^\x01": api.ErrChar,
		"^x": api.ErrForm, "^()": api.ErrForm, "^\"\"": api.ErrForm, "^(x)": api.ErrForm, "^(x y)": api.ErrForm, "^(\"drop\" p)": api.ErrForm, "^((drop) p)": api.ErrForm, "^pass": api.ErrForm, "^(machine m)": api.ErrForm,
		"^(pod)": api.ErrForm, "(pod p ^(x))": api.ErrField, "(pod p (port ^x))": api.ErrNumber, "^(pod p wide)": api.ErrForm, "^(pod \"\")": api.ErrForm,
		"^(taint m k v)": api.ErrForm, "^(taint m k v no no)": api.ErrForm, "^(untaint m)": api.ErrForm, "^(untaint m k v)": api.ErrForm, "^(increase g)": api.ErrForm, "^(decrease g 1 1)": api.ErrForm, "^(pass)": api.ErrForm, "^(pass 1 1)": api.ErrForm, "^(increase () x y)": api.ErrForm,
		"(taint ^\"\" k v no)": api.ErrKind, "(taint m ^\"\" v no)": api.ErrKind, "(taint m k ^\"v\" no)": api.ErrKind, "(taint m k ^() no)": api.ErrKind, "(taint m k v ^any)": api.ErrKind, "(taint m k v ^\"no\")": api.ErrKind, "(taint m k v ^No)": api.ErrKind,
		"(untaint ^() k)": api.ErrKind, "(untaint m ^\"\")": api.ErrKind, "(increase ^\"g\" x)": api.ErrKind, "(increase g ^\"1\")": api.ErrKind, "(decrease g ^())": api.ErrKind, "(pass ^\"\")": api.ErrKind,
		"(increase g ^x)": api.ErrNumber, "(decrease g ^-1)": api.ErrNumber, "(pass ^1k)": api.ErrNumber, "(pass ^2000000000000000)": api.ErrOver, "(increase g ^9999999999999999999)": api.ErrOver,
		"^(increase g 1001)": api.ErrForm, "^(decrease g 1001)": api.ErrForm, "^(pass 0)": api.ErrForm, "^(pass 101)": api.ErrForm,
		"(pass ^x) y": api.ErrNumber, "(pass 5) ^(pass 0) (pass x)": api.ErrForm,
	}
	for _, what := range named {
		cases["^("+what+")"], cases["^("+what+" a b)"], cases["("+what+" ^\"\")"], cases["("+what+" ^(a))"] = api.ErrForm, api.ErrForm, api.ErrKind, api.ErrKind
	}
	for marked, want := range cases {
		for _, before := range []string{"", "(pass 1) (drop x) "} {
			s, place := before+strings.Replace(marked, "^", "", 1), len(before)+strings.Index(marked, "^")
			if strings.HasPrefix(marked, "x ^") && before != "" {
				place = len(before) + 2
			}
			if got, e, at := journal.Parse(s); len(got) != 0 || e != want || at != place {
				t.Errorf("%s: got %d at %d, want %d at %d", s, e, at, want, place)
			}
		}
	}
}

func of(name string, min, max int) api.Group {
	return api.Group{Name: name, Min: min, Max: max, Like: api.Machine{Group: name, Has: api.Res{Cpu: 1000, Pods: 10}, Ready: true}}
}

func fresh(t *testing.T) *world.World {
	t.Helper()
	w, e := world.New([]api.Group{of("g", 1, 5)}, []api.Budget{{Name: "b", Match: []api.Label{{Key: "app", Val: "x"}}, Least: 1}}, 2)
	if e != api.OK {
		t.Fatal(e)
	}
	return w
}

func same(a, b *world.World) bool {
	return reflect.DeepEqual(a.Machines(), b.Machines()) && reflect.DeepEqual(a.Bounds(), b.Bounds()) && reflect.DeepEqual(a.Insts(), b.Insts()) &&
		reflect.DeepEqual(a.Missing(), b.Missing()) && a.Now() == b.Now() && a.Target("g") == b.Target("g") && a.Calls() == b.Calls()
}

func TestP36_3Do(t *testing.T) {
	v, w := fresh(t), fresh(t)
	prefer := api.Taint{Key: "k", Val: "v", Effect: api.Prefer}
	one := func(what, name string) journal.Entry { return journal.Entry{What: what, Name: name} }
	passes := func(n int) api.Errno {
		for range n {
			v.Pass()
		}
		return api.OK
	}
	for i, c := range []struct {
		e  journal.Entry
		do func() api.Errno
	}{
		{journal.Entry{What: "pod", Pod: pod("p", 600)}, func() api.Errno { return v.AddPod(pod("p", 600)) }},
		{journal.Entry{What: "pod", Pod: pod("p", 600)}, func() api.Errno { return api.ErrTwice }},
		{journal.Entry{What: "pod", Pod: pod("q", 600)}, func() api.Errno { return v.AddPod(pod("q", 600)) }},
		{journal.Entry{What: "increase", Name: "g", N: 3}, func() api.Errno { return v.Increase("g", 3) }},
		{journal.Entry{What: "increase", Name: "g", N: 2}, func() api.Errno { return api.ErrMax }},
		{journal.Entry{What: "increase", Name: "g", N: 0}, func() api.Errno { return api.ErrArg }},
		{one("hold", "g-2"), func() api.Errno { return v.Hold("g-2", true) }},
		{one("fail", "g-3"), func() api.Errno { return v.Fail("g-3") }},
		{journal.Entry{What: "pass", N: 3}, func() api.Errno { return passes(3) }},
		{one("free", "g-2"), func() api.Errno { return v.Hold("g-2", false) }},
		{one("free", "g-1"), func() api.Errno { return api.ErrState }},
		{journal.Entry{What: "pass", N: 1}, func() api.Errno { return passes(1) }},
		{one("evict", "p"), func() api.Errno { return v.Evict("p") }},
		{one("evict", "q"), func() api.Errno { return api.ErrMin }},
		{one("unready", "g-1"), func() api.Errno { return v.Ready("g-1", false) }},
		{one("unready", "g-4"), func() api.Errno { return v.Ready("g-4", false) }},
		{one("ready", "g-1"), func() api.Errno { return v.Ready("g-1", true) }},
		{taint("g-2", prefer), func() api.Errno { return v.Taint("g-2", prefer) }},
		{taint("g-4", prefer), func() api.Errno { return v.Taint("g-4", prefer) }},
		{journal.Entry{What: "untaint", Name: "g-4", Taint: api.Taint{Key: "k"}}, func() api.Errno { return v.Untaint("g-4", "k") }},
		{one("break", "g"), func() api.Errno { return v.Break("g", true) }},
		{journal.Entry{What: "increase", Name: "g", N: 1}, func() api.Errno { return api.ErrCloud }},
		{one("mend", "g"), func() api.Errno { return v.Break("g", false) }},
		{one("delete", "g-3"), func() api.Errno { return v.Delete("g-3") }},
		{one("delete", "x"), func() api.Errno { return api.ErrNone }},
		{journal.Entry{What: "decrease", Name: "g", N: 1}, func() api.Errno { return v.Decrease("g", 1) }},
		{journal.Entry{What: "increase", Name: "g", N: 1}, func() api.Errno { return v.Increase("g", 1) }},
		{one("drop", "q"), func() api.Errno { return v.DropPod("q") }},
		{journal.Entry{What: "pass", N: 5}, func() api.Errno { return passes(5) }},
	} {
		want := c.do()
		if got := journal.Do(w, c.e); got != want || !same(v, w) {
			t.Error(i, c.e, got, want)
		}
	}
	if w.Now() != 9 {
		t.Error(w.Now())
	}
}

func TestP36_3DoDecreases(t *testing.T) {
	w, e := world.New([]api.Group{of("g", 1, 6)}, nil, 1)
	if e != api.OK {
		t.Fatal(e)
	}
	got := journal.Play(w, []journal.Entry{
		{What: "increase", Name: "g", N: 1}, {What: "fail", Name: "g-2"}, {What: "delete", Name: "g-1"}, {What: "delete", Name: "g-2"}, {What: "increase", Name: "g", N: 2}, {What: "decrease", Name: "g", N: 1}, {What: "decrease", Name: "g", N: 1},
	})
	if !slices.Equal(got, []api.Errno{0, 0, 0, 0, 0, 0, api.ErrMin}) || w.Target("g") != 2 {
		t.Error(got, w.Target("g"))
	}
}

func TestP36_3DoWithoutAWorld(t *testing.T) {
	c, _ := cloud.New([]api.Group{of("g", 1, 5)}, 1)
	l, _ := all()
	for _, w := range []*world.World{nil, {}, {Cloud: c}} {
		for _, e := range l {
			if got := journal.Do(w, e); got != api.ErrNil {
				t.Error(e, got)
			}
			e.What = "x"
			if got := journal.Do(w, e); got != api.ErrForm {
				t.Error(e, got)
			}
		}
	}
	if c.Now() != 0 || c.Calls() != 0 {
		t.Error("something was done")
	}
}

func TestP36_3Play(t *testing.T) {
	w := fresh(t)
	l := []journal.Entry{{What: "pod", Pod: pod("p", 1)}, {What: "pod", Pod: pod("p", 1)}, {}, {What: "pass", N: 2}, {What: "evict", Name: "p"}, {What: "drop", Name: "p"}, {What: "drop", Name: "p"}}
	if got := journal.Play(w, l); !slices.Equal(got, []api.Errno{api.OK, api.ErrTwice, api.ErrForm, api.OK, api.ErrMin, api.OK, api.ErrNone}) {
		t.Error(got)
	}
	if got := journal.Play(w, nil); len(got) != 0 || w.Now() != 2 {
		t.Error(got, w.Now())
	}
	if got := journal.Play(nil, l[:3]); !slices.Equal(got, []api.Errno{api.ErrNil, api.ErrNil, api.ErrForm}) {
		t.Error(got)
	}
}

func TestP36_4Properties(t *testing.T) {
	l, _ := all()
	got, e, at := journal.Parse(journal.Show(l))
	if !reflect.DeepEqual(got, l) || e != api.OK || at != 0 {
		t.Error(got, e, at)
	}
	steps, e, _ := journal.Parse("(pod p (need 700m 0 0 0)) (pod q (need 700m 0 0 0)) (increase g 2) (hold g-2) (pass 3) (fail g-3) (unready g-1) (free g-2) (evict p) (pass 2) (delete g-1) (pass 1)")
	if e != api.OK {
		t.Fatal(e)
	}
	a, b := fresh(t), fresh(t)
	first, second := journal.Play(a, steps), journal.Play(b, steps)
	if !slices.Equal(first, second) || !same(a, b) || a.Now() != 6 {
		t.Error(first, second)
	}
}

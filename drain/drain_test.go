package drain_test

import (
	"math"
	"slices"
	"strings"
	"testing"

	"trireme/api"
	"trireme/cloud"
	"trireme/drain"
	"trireme/world"
)

func of(name string, min, max int) api.Group {
	return api.Group{Name: name, Min: min, Max: max, Like: api.Machine{Group: name, Has: api.Res{Cpu: 1000, Pods: 10}, Ready: true}}
}

func pod(name string, cpu int) api.Pod {
	return api.Pod{Name: name, Need: api.Res{Cpu: cpu, Pods: 1}, Owner: "o", Labels: []api.Label{{Key: "app", Val: "x"}}}
}

func daemon(name string) api.Pod {
	p := pod(name, 1)
	p.Daemon = true
	return p
}

// fresh returns a world with n machines g-1 to g-n (Min 0), the given pods, which were scheduled, and a budget of least.
func fresh(t *testing.T, n, least int, pods ...api.Pod) *world.World {
	t.Helper()
	w, e := world.New([]api.Group{of("g", 0, 9)}, []api.Budget{{Name: "b", Match: []api.Label{{Key: "app", Val: "x"}}, Least: least}}, 1)
	want(t, e, api.OK)
	want(t, w.Increase("g", n), api.OK)
	w.Pass()
	for _, p := range pods {
		want(t, w.AddPod(p), api.OK)
	}
	w.Pass()
	return w
}

func table(t *testing.T, grace int) *drain.Table {
	t.Helper()
	d, e := drain.New(grace)
	want(t, e, api.OK)
	return d
}

func want(t *testing.T, got, want api.Errno) {
	t.Helper()
	if got != want {
		t.Errorf("got %d, want %d", got, want)
	}
}

// step calls Step and checks the messages, and then what is busy and leaving.
func step(t *testing.T, d *drain.Table, w *world.World, messages, busy, leaving string) {
	t.Helper()
	if got := strings.Join(d.Step(w), ", "); got != messages {
		t.Errorf("messages %q, want %q", got, messages)
	}
	if got := strings.Join(d.Busy(), " "); got != busy {
		t.Errorf("busy %q, want %q", got, busy)
	}
	if got := strings.Join(d.Leaving(), " "); got != leaving {
		t.Errorf("leaving %q, want %q", got, leaving)
	}
}

func tainted(w *world.World) string {
	s := ""
	for _, m := range w.Machines() {
		if slices.Contains(m.Taints, api.Taint{Key: "draining", Effect: api.NoSchedule}) {
			s += m.Name + " "
		}
	}
	return strings.TrimSpace(s)
}

func TestNoObject(t *testing.T) {
	w := fresh(t, 1, 0)
	for _, d := range []*drain.Table{nil, {}} {
		want(t, d.Start(w, "g-1"), api.ErrNil)
		want(t, d.Start(nil, "x"), api.ErrNil)
		if d.Step(w) != nil || d.Busy() != nil || d.Leaving() != nil || d.Copy() != nil {
			t.Error("a result of an object that is none")
		}
	}
	d := table(t, 0)
	want(t, d.Start(w, "g-1"), api.OK)
	c, _ := cloud.New([]api.Group{of("g", 1, 1)}, 1)
	for _, none := range []*world.World{nil, {}, {Cloud: c}} {
		want(t, d.Start(none, "g-1"), api.ErrNil)
		step(t, d, none, "", "g-1", "")
	}
	step(t, d, w, "delete g-1", "g-1", "g-1")
}

func TestP28_1New(t *testing.T) {
	for _, grace := range []int{0, 1, 1000} {
		d, e := drain.New(grace)
		if e != api.OK || len(d.Busy()) != 0 || len(d.Leaving()) != 0 {
			t.Error(grace, e)
		}
	}
	for _, grace := range []int{-1, 1001, math.MaxInt, math.MinInt} {
		if d, e := drain.New(grace); d != nil || e != api.ErrArg {
			t.Error(grace, e)
		}
	}
	if drain.Key != "draining" {
		t.Error(drain.Key)
	}
}

func TestP28_2Start(t *testing.T) {
	w := fresh(t, 3, 0)
	d := table(t, 0)
	want(t, d.Start(w, "x"), api.ErrNone)
	want(t, d.Start(w, ""), api.ErrNone)
	want(t, d.Start(w, "g-2"), api.OK)
	want(t, d.Start(w, "g-1"), api.OK)
	want(t, d.Start(w, "g-2"), api.ErrTwice)
	if got := d.Busy(); !slices.Equal(got, []string{"g-2", "g-1"}) || len(d.Leaving()) != 0 {
		t.Error(got)
	}
	if got := tainted(w); got != "g-1 g-2" {
		t.Error(got)
	}
	for i := range 16 {
		want(t, w.Taint("g-3", api.Taint{Key: "k" + string(rune('a'+i)), Effect: 1}), api.OK)
	}
	want(t, d.Start(w, "g-3"), api.ErrForm)
	if len(d.Busy()) != 2 {
		t.Error("an error starts nothing")
	}
}

func TestP28_3StepEvictsAndDeletes(t *testing.T) {
	w := fresh(t, 1, 0, daemon("d"), pod("p", 100), pod("q", 200))
	d := table(t, 0)
	want(t, d.Start(w, "g-1"), api.OK)
	step(t, d, w, "evict p, evict q, delete g-1", "g-1", "g-1")
	step(t, d, w, "", "g-1", "g-1")
	if x := w.Insts(); x[0].State != api.Leaving || w.Target("g") != 0 {
		t.Error(x)
	}
	want(t, d.Start(w, "g-1"), api.ErrTwice)
	w.Pass()
	step(t, d, w, "gone g-1", "", "")
	step(t, d, w, "", "", "")
	want(t, d.Start(w, "g-1"), api.ErrNone)
}

func TestP28_3StepInOrder(t *testing.T) {
	w := fresh(t, 3, 0, pod("p", 100), pod("q", 100), pod("r", 100))
	d := table(t, 0)
	want(t, d.Start(w, "g-3"), api.OK)
	want(t, d.Start(w, "g-1"), api.OK)
	step(t, d, w, "evict r, delete g-3, evict p, delete g-1", "g-3 g-1", "g-3 g-1")
	w.Pass()
	want(t, d.Start(w, "g-2"), api.OK)
	// The pods that were evicted have been scheduled again.
	step(t, d, w, "gone g-3, gone g-1, evict q, evict r, evict p, delete g-2", "g-2", "g-2")
}

func TestP28_3StepKeeps(t *testing.T) {
	w, e := world.New([]api.Group{of("g", 1, 3)}, nil, 1)
	want(t, e, api.OK)
	want(t, w.AddPod(pod("p", 1)), api.OK)
	w.Pass()
	want(t, w.Taint("g-1", api.Taint{Key: "other", Effect: api.Prefer}), api.OK)
	d := table(t, 0)
	want(t, d.Start(w, "g-1"), api.OK)
	want(t, w.Taint("g-1", api.Taint{Key: "draining", Val: "v", Effect: api.Prefer}), api.OK)
	step(t, d, w, "evict p, keep g-1", "", "")
	if got := w.Machines()[0].Taints; !slices.Equal(got, []api.Taint{{Key: "other", Effect: api.Prefer}}) {
		t.Error(got)
	}
	want(t, d.Start(w, "g-1"), api.OK)
}

func TestP28_3StepKeepsWhatIsLeaving(t *testing.T) {
	w := fresh(t, 1, 0)
	d := table(t, 0)
	want(t, d.Start(w, "g-1"), api.OK)
	want(t, w.Delete("g-1"), api.OK)
	step(t, d, w, "keep g-1", "", "")
}

func TestP28_3StepStops(t *testing.T) {
	w := fresh(t, 2, 2, pod("p", 600), pod("q", 600), pod("r", 300))
	d := table(t, 2)
	want(t, d.Start(w, "g-1"), api.OK)
	step(t, d, w, "evict p", "g-1", "")
	step(t, d, w, "", "g-1", "")
	if got := tainted(w); got != "g-1" {
		t.Error(got)
	}
	step(t, d, w, "stop g-1", "", "")
	if got := tainted(w); got != "" {
		t.Error(got)
	}
	if x := w.Insts(); x[0].State != api.Running {
		t.Error(x)
	}
	// A new start has a new number of failed steps.
	want(t, d.Start(w, "g-1"), api.OK)
	step(t, d, w, "", "g-1", "")
	want(t, w.DropPod("r"), api.OK)
	step(t, d, w, "delete g-1", "g-1", "g-1")
}

func TestP28_3StepWithoutGrace(t *testing.T) {
	w := fresh(t, 1, 1, pod("p", 1))
	d := table(t, 0)
	want(t, d.Start(w, "g-1"), api.OK)
	step(t, d, w, "stop g-1", "", "")
}

func TestP28_4Copy(t *testing.T) {
	w := fresh(t, 2, 1, pod("p", 1))
	d := table(t, 1)
	want(t, d.Start(w, "g-1"), api.OK)
	step(t, d, w, "", "g-1", "")
	c := d.Copy()
	want(t, d.Start(w, "g-2"), api.OK)
	if got := c.Busy(); !slices.Equal(got, []string{"g-1"}) {
		t.Error(got)
	}
	step(t, c, w, "stop g-1", "", "")
	step(t, d, w, "stop g-1, delete g-2", "g-2", "g-2")
	e := d.Copy()
	w.Pass()
	step(t, d, w, "gone g-2", "", "")
	step(t, e, w, "gone g-2", "", "")
	want(t, c.Copy().Start(w, "g-1"), api.OK)
}

func TestP28_5Properties(t *testing.T) {
	w := fresh(t, 4, 3, pod("p", 600), pod("q", 600), pod("r", 600), pod("s", 600), pod("u", 100))
	d := table(t, 1)
	want(t, d.Start(w, "g-2"), api.OK)
	want(t, d.Start(w, "g-1"), api.OK)
	ran := map[string]string{}
	for _, b := range w.Bounds() {
		ran[b.Pod.Name] = b.On
	}
	for range 6 {
		for _, m := range d.Step(w) {
			if name, ok := strings.CutPrefix(m, "evict "); ok && ran[name] != "g-1" && ran[name] != "g-2" {
				t.Error("evicted from another machine", m)
			}
		}
		for _, x := range w.Insts() {
			if x.State != api.Running && x.Name != "g-1" && x.Name != "g-2" {
				t.Error("another machine was deleted", x)
			}
		}
		for name := range strings.FieldsSeq(tainted(w)) {
			if !slices.Contains(d.Busy(), name) {
				t.Error("still has the taint", name)
			}
		}
	}
	if len(d.Busy()) != 1 || len(d.Leaving()) != 1 {
		t.Error(d.Busy(), d.Leaving())
	}
}

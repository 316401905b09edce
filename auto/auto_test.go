package auto_test

import (
	"math"
	"slices"
	"strconv"
	"strings"
	"testing"

	"trireme/api"
	"trireme/auto"
	"trireme/cloud"
	"trireme/world"
)

func of(name string, min, max int) api.Group {
	return api.Group{Name: name, Min: min, Max: max, Like: api.Machine{Group: name, Has: api.Res{Cpu: 1000, Mem: 1000, Pods: 10}, Ready: true}}
}

func pod(name string, cpu int) api.Pod {
	return api.Pod{Name: name, Need: api.Res{Cpu: cpu, Pods: 1}, Owner: "o", Labels: []api.Label{{Key: "app", Val: "x"}}}
}

// conf is a configuration under which nothing is idle.
func conf() api.Conf {
	return api.Conf{How: api.LeastWaste, Wait: 100, Share: 1000, First: 2, Most: 8, Reset: 100, Batch: 1}
}

func want(t *testing.T, got, want api.Errno) {
	t.Helper()
	if got != want {
		t.Errorf("got %d, want %d", got, want)
	}
}

// scene is an autoscaler with its world.
type scene struct {
	t *testing.T
	a *auto.Auto
	w *world.World
}

func newScene(t *testing.T, c api.Conf, delay int, budgets []api.Budget, gs ...api.Group) scene {
	t.Helper()
	a, e := auto.New(gs, c)
	want(t, e, api.OK)
	w, e := world.New(gs, budgets, delay)
	want(t, e, api.OK)
	return scene{t, a, w}
}

func (s scene) add(pods ...api.Pod) {
	s.t.Helper()
	for _, p := range pods {
		want(s.t, s.w.AddPod(p), api.OK)
	}
}

// tick checks the messages of a Tick, and then passes a tick of the world.
func (s scene) tick(messages string) {
	s.t.Helper()
	s.tickOnly(messages)
	s.w.Pass()
}

func (s scene) tickOnly(messages string) {
	s.t.Helper()
	if got := strings.Join(s.a.Tick(s.w), ", "); got != messages {
		s.t.Errorf("at %d: got %q, want %q", s.w.Now(), got, messages)
	}
}

// ticks checks the messages of several ticks.
func (s scene) ticks(messages ...string) {
	s.t.Helper()
	for _, m := range messages {
		s.tick(m)
	}
}

func TestNoObject(t *testing.T) {
	w, _ := world.New([]api.Group{of("g", 0, 2)}, nil, 1)
	want(t, w.AddPod(pod("p", 1)), api.OK)
	for _, a := range []*auto.Auto{nil, {}} {
		if a.Tick(w) != nil || a.Tick(nil) != nil || a.Busy() != nil || a.Resting() != nil || w.Calls() != 0 {
			t.Error("a result of an object that is none")
		}
	}
	a, _ := auto.New([]api.Group{of("g", 0, 2)}, conf())
	c, _ := cloud.New([]api.Group{of("g", 0, 2)}, 1)
	for _, none := range []*world.World{nil, {}, {Cloud: c}} {
		if a.Tick(none) != nil {
			t.Error("a message about no world")
		}
	}
	if got := a.Tick(w); !slices.Equal(got, []string{"up g 1"}) {
		t.Error(got)
	}
}

func TestP30_1RightAndNew(t *testing.T) {
	most := api.Conf{How: 4, Seed: 1<<31 - 1, Caps: api.Caps{Nodes: 1 << 58, Cpu: 1 << 58, Mem: 1 << 58}, Use: 1000000, Long: 1000000, Calm: 1000000, Grace: 1000, Wait: 1000000, Share: 1000,
		First: api.MaxTime, Most: api.MaxTime, Reset: api.MaxTime, Batch: 100, Even: true}
	for _, c := range []api.Conf{conf(), most, {How: 1, First: 1, Most: 1, Reset: 1, Batch: 1}} {
		a, e := auto.New([]api.Group{of("g", 0, 1)}, c)
		if !auto.Right(c) || e != api.OK || len(a.Busy())+len(a.Resting()) != 0 {
			t.Error(c, e)
		}
	}
	for i, change := range []func(c *api.Conf){
		func(c *api.Conf) { c.How = 0 }, func(c *api.Conf) { c.How = 5 }, func(c *api.Conf) { c.Seed = -1 }, func(c *api.Conf) { c.Seed = 1 << 31 },
		func(c *api.Conf) { c.Caps.Nodes = -1 }, func(c *api.Conf) { c.Caps.Mem = 1<<58 + 1 }, func(c *api.Conf) { c.Use = -1 }, func(c *api.Conf) { c.Use = 1000001 },
		func(c *api.Conf) { c.Long = -1 }, func(c *api.Conf) { c.Long = 1000001 }, func(c *api.Conf) { c.Calm = -1 }, func(c *api.Conf) { c.Calm = 1000001 },
		func(c *api.Conf) { c.Wait = -1 }, func(c *api.Conf) { c.Wait = math.MaxInt }, func(c *api.Conf) { c.Grace = -1 }, func(c *api.Conf) { c.Grace = 1001 },
		func(c *api.Conf) { c.Share = -1 }, func(c *api.Conf) { c.Share = 1001 }, func(c *api.Conf) { c.First = 0 }, func(c *api.Conf) { c.Most = 1 }, func(c *api.Conf) { c.Reset = 0 },
		func(c *api.Conf) { c.Batch = 0 }, func(c *api.Conf) { c.Batch = 101 },
	} {
		c := conf()
		change(&c)
		if auto.Right(c) {
			t.Error(i, c)
		}
		if a, e := auto.New(nil, c); a != nil || e != api.ErrArg {
			t.Error(i, e)
		}
		if a, e := auto.New([]api.Group{of("g", 2, 1)}, c); a != nil || e != api.ErrForm {
			t.Error(i, e)
		}
	}
}

func TestP30_2UpUntilThePodRuns(t *testing.T) {
	s := newScene(t, conf(), 2, nil, of("g", 0, 5))
	s.add(pod("p", 600), pod("q", 600), pod("r", 400))
	s.tick("up g 2")
	s.add(pod("s", 600))
	s.ticks("up g 1", "", "", "")
	for _, b := range s.w.Bounds() {
		if b.On == "" {
			t.Error("pending", b)
		}
	}
	if s.w.Target("g") != 3 {
		t.Error(s.w.Target("g"))
	}
}

func TestP30_2Hopeless(t *testing.T) {
	s := newScene(t, conf(), 1, nil, of("g", 0, 5))
	s.add(pod("big", 1001), pod("p", 1), pod("huge", 5000))
	s.ticks("hopeless big, hopeless huge, up g 1", "hopeless big, hopeless huge")
	s.add(pod("q", 1000))
	s.tick("hopeless big, hopeless huge, up g 1")
}

func TestP30_2Clean(t *testing.T) {
	c := conf()
	c.Wait = 2
	s := newScene(t, c, 1, nil, of("g", 0, 3), of("h", 0, 3))
	want(t, s.w.Increase("g", 2), api.OK)
	want(t, s.w.Increase("h", 1), api.OK)
	want(t, s.w.Fail("g-2"), api.OK)
	want(t, s.w.Hold("h-1", true), api.OK)
	s.tickOnly("clean g-2")
	if got := s.a.Resting(); !slices.Equal(got, []string{"g"}) || s.w.Target("g") != 1 {
		t.Error(got, s.w.Target("g"))
	}
	s.w.Pass()
	// h-1 runs from now on, but does not register; it is late from tick 3 on.
	s.ticks("", "", "clean h-1", "")
	if got := s.a.Resting(); !slices.Equal(got, []string{"g", "h"}) {
		t.Error(got)
	}
}

func TestP30_2CleanThatIsRefused(t *testing.T) {
	// The provider does not delete a Running instance at Min; its group fails all the same.
	c := conf()
	c.Wait, c.First, c.Most = 1, 3, 100
	s := newScene(t, c, 1, nil, of("g", 1, 3))
	want(t, s.w.Delete("g-1"), api.ErrMin)
	want(t, s.w.Increase("g", 1), api.OK)
	want(t, s.w.Hold("g-2", true), api.OK)
	s.ticks("", "")
	want(t, s.w.Delete("g-1"), api.OK)
	s.tickOnly("")
	if got := s.a.Resting(); !slices.Equal(got, []string{"g"}) {
		t.Error(got)
	}
}

func TestP30_2Fix(t *testing.T) {
	s := newScene(t, conf(), 1, nil, of("g", 2, 6), of("h", 0, 3))
	// At Min, deleting instances that do not run leaves the target above the size.
	want(t, s.w.Increase("g", 2), api.OK)
	want(t, s.w.Fail("g-3"), api.OK)
	want(t, s.w.Fail("g-4"), api.OK)
	for _, name := range []string{"g-1", "g-2", "g-3", "g-4"} {
		want(t, s.w.Delete(name), api.OK)
	}
	want(t, s.w.Increase("g", 3), api.OK)
	want(t, s.w.Hold("g-5", true), api.OK)
	if s.w.Target("g") != 5 {
		t.Fatal(s.w.Target("g"))
	}
	s.tickOnly("fix g 2")
	if s.w.Target("g") != 3 {
		t.Error(s.w.Target("g"))
	}
	s.tickOnly("")
}

func TestP30_2Unhealthy(t *testing.T) {
	c := conf()
	c.Share = 500
	s := newScene(t, c, 1, nil, of("g", 3, 6))
	s.add(pod("p", 600), pod("q", 600), pod("r", 600))
	want(t, s.w.Ready("g-1", false), api.OK)
	s.tickOnly("up g 1")
	want(t, s.w.Ready("g-2", false), api.OK)
	s.add(pod("u", 600), pod("v", 600), pod("w", 600))
	s.tickOnly("unhealthy")
	want(t, s.w.Fail("g-4"), api.OK)
	s.tick("clean g-4, unhealthy")
	s.tick("unhealthy")
	want(t, s.w.Ready("g-2", true), api.OK)
	s.tick("up g 3")
}

func TestP30_2Raise(t *testing.T) {
	s := newScene(t, conf(), 1, nil, of("g", 2, 9), of("h", 1, 5))
	want(t, s.w.Increase("g", 2), api.OK)
	want(t, s.w.Fail("g-3"), api.OK)
	want(t, s.w.Fail("g-4"), api.OK)
	for _, name := range []string{"g-1", "g-2"} {
		want(t, s.w.Delete(name), api.OK)
	}
	// Now the target is 2 = Min; the failed instances are cleaned, and g fails for 2 and then 4 ticks, at the same time.
	s.tick("clean g-3, clean g-4")
	s.ticks("", "", "", "raise g 2", "fix g 2", "")
	if s.w.Target("g") != 2 {
		t.Error(s.w.Target("g"))
	}
}

func TestP30_2RaiseIsRefused(t *testing.T) {
	s := newScene(t, conf(), 1, nil, of("g", 2, 9))
	want(t, s.w.Increase("g", 1), api.OK)
	want(t, s.w.Fail("g-3"), api.OK)
	want(t, s.w.Delete("g-1"), api.OK)
	want(t, s.w.Delete("g-3"), api.OK)
	want(t, s.w.Break("g", true), api.OK)
	s.ticks("refused g", "", "refused g", "", "", "")
	want(t, s.w.Break("g", false), api.OK)
	s.tick("raise g 1")
	s.tick("fix g 1")
	s.tick("")
}

func TestP30_2RefusedAndBackoff(t *testing.T) {
	s := newScene(t, conf(), 1, nil, of("g", 0, 5), of("h", 0, 5))
	want(t, s.w.Break("g", true), api.OK)
	s.add(pod("p", 600))
	s.tick("refused g")
	s.tick("up h 1")
	s.ticks("")
	want(t, s.w.Break("h", true), api.OK)
	s.add(pod("q", 600))
	s.tick("refused g")
	if got := s.a.Resting(); !slices.Equal(got, []string{"g"}) {
		t.Error(got)
	}
	s.ticks("refused h", "", "refused h", "refused g", "", "", "refused h", "", "", "", "", "refused g")
}

func TestP30_2FailedInstancesAndBackoff(t *testing.T) {
	s := newScene(t, conf(), 1, nil, of("g", 0, 5))
	s.add(pod("p", 600))
	want(t, s.w.Break("g", true), api.OK)
	s.tick("refused g")
	want(t, s.w.Break("g", false), api.OK)
	s.tick("")
	s.tickOnly("up g 1")
	want(t, s.w.Break("g", true), api.OK)
	s.w.Pass()
	want(t, s.w.Break("g", false), api.OK)
	// The instance failed: it is deleted at once, and the group rests for 4 ticks.
	s.ticks("clean g-1", "", "", "", "up g 1", "")
}

func TestP30_2UpRegardsMaxAndCaps(t *testing.T) {
	c := conf()
	c.Caps = api.Caps{Nodes: 4}
	s := newScene(t, c, 3, nil, of("g", 0, 3), of("h", 1, 3))
	for i := range 9 {
		s.add(pod("p"+strconv.Itoa(i), 900))
	}
	s.tick("up g 3")
	s.ticks("", "", "", "")
	c.Caps = api.Caps{Cpu: 2500}
	s = newScene(t, c, 3, nil, of("g", 0, 5))
	s.add(pod("p", 900), pod("q", 900), pod("r", 900))
	s.ticks("up g 2", "", "", "", "")
	c.Caps = api.Caps{Nodes: 1}
	s = newScene(t, c, 3, nil, of("g", 2, 5))
	s.add(pod("p", 900), pod("q", 900), pod("r", 900))
	s.ticks("", "")
}

func TestP30_2UpChooses(t *testing.T) {
	small, big, dear := of("small", 0, 9), of("big", 0, 9), of("dear", 0, 9)
	big.Like.Has.Cpu, big.Price, small.Price = 2000, 9, 5
	dear.Price, dear.Rank = 50, 7
	for how, first := range map[int]string{api.LeastWaste: "up small 2", api.ByPrice: "up big 1", api.ByRank: "up dear 2"} {
		c := conf()
		c.How = how
		s := newScene(t, c, 1, nil, small, big, dear)
		s.add(pod("p", 900), pod("q", 900))
		s.ticks(first, "")
	}
}

func TestP30_2UpByChance(t *testing.T) {
	c := conf()
	c.How, c.Seed = api.ByChance, 1
	s := newScene(t, c, 1, nil, of("a", 0, 9), of("b", 0, 9), of("c", 0, 9))
	seed := 1
	for i := range 6 {
		s.add(pod("p"+strconv.Itoa(i), 900))
		// The seed changes only when an option is chosen.
		seed = (1103515245*seed + 12345) % (1 << 31)
		s.ticks("up "+string(rune('a'+seed%3))+" 1", "")
	}
}

func TestP30_2UpEven(t *testing.T) {
	zoned := func(name string, min, max int) api.Group {
		g := of(name, min, max)
		g.Like.Labels = []api.Label{{Key: "zone", Val: name}}
		return g
	}
	c := conf()
	c.Even = true
	other := of("other", 0, 9)
	other.Like.Has.Cpu = 5000
	s := newScene(t, c, 1, nil, zoned("a", 0, 9), other, zoned("b", 0, 9))
	s.add(pod("p", 900), pod("q", 900), pod("r", 900))
	s.tick("up a 2, up b 1")
	s.tick("")
	s.add(pod("s", 900), pod("u", 900))
	want(t, s.w.Break("b", true), api.OK)
	s.tick("up a 1, refused b")
	s.add(pod("v", 900))
	s.tick("up a 2")
	s.tick("")
	s = newScene(t, c, 1, nil, zoned("a", 1, 2), zoned("b", 0, 9))
	s.add(pod("p", 900), pod("q", 900), pod("r", 900), pod("s", 900))
	s.w.Pass()
	s.tick("up b 1")
}

func TestP30_2UpRegardsWhatIsComing(t *testing.T) {
	c := conf()
	c.Wait = 3
	s := newScene(t, c, 5, nil, of("g", 0, 9))
	s.add(pod("p", 900))
	s.ticks("up g 1", "", "", "", "clean g-1", "", "up g 1", "")
}

func TestP30_2DownOfAnIdleMachine(t *testing.T) {
	c := conf()
	c.Use, c.Long = 500, 3
	s := newScene(t, c, 1, nil, of("g", 0, 5))
	s.add(pod("p", 900))
	s.ticks("up g 1", "")
	want(t, s.w.DropPod("p"), api.OK)
	s.ticks("", "", "", "down g-1", "delete g-1", "gone g-1", "")
	if len(s.w.Insts()) != 0 || s.w.Target("g") != 0 {
		t.Error(s.w.Insts())
	}
}

func TestP30_2DownMovesPods(t *testing.T) {
	c := conf()
	c.Use, c.Long, c.Batch = 500, 2, 5
	s := newScene(t, c, 1, nil, of("g", 3, 5))
	want(t, s.w.Increase("g", 1), api.OK)
	s.w.Pass()
	s.add(pod("a", 600), pod("b", 600), pod("c", 600), pod("d", 300))
	s.w.Pass()
	s.ticks("", "", "down g-4")
	if got := s.a.Busy(); !slices.Equal(got, []string{"g-4"}) {
		t.Error(got)
	}
	s.ticks("evict d, delete g-4", "gone g-4", "", "", "")
	if len(s.a.Busy()) != 0 || s.w.Target("g") != 3 {
		t.Error(s.a.Busy())
	}
	for _, b := range s.w.Bounds() {
		if b.On == "" || b.On == "g-4" {
			t.Error(b)
		}
	}
}

func TestP30_2DownKeepsMinAndBatch(t *testing.T) {
	c := conf()
	c.Use, c.Batch = 500, 2
	s := newScene(t, c, 1, nil, of("g", 1, 9), of("h", 2, 9))
	want(t, s.w.Increase("g", 3), api.OK)
	want(t, s.w.Increase("h", 1), api.OK)
	s.w.Pass()
	s.tick("down g-1, down g-2")
	s.tick("delete g-1, delete g-2")
	s.tick("gone g-1, gone g-2, down g-3, down h-1")
	s.tick("delete g-3, delete h-1")
	s.ticks("gone g-3, gone h-1", "", "")
	if s.w.Target("g") != 1 || s.w.Target("h") != 2 {
		t.Error(s.w.Target("g"), s.w.Target("h"))
	}
}

func TestP30_2DownWaitsForCalm(t *testing.T) {
	c := conf()
	c.Use, c.Calm = 500, 4
	s := newScene(t, c, 1, nil, of("g", 1, 9), of("idle", 0, 9))
	want(t, s.w.Increase("idle", 1), api.OK)
	s.w.Pass()
	want(t, s.w.Ready("idle-1", false), api.OK)
	s.add(pod("p", 900), pod("q", 900))
	s.tick("up g 1")
	want(t, s.w.Ready("idle-1", true), api.OK)
	s.ticks("", "", "", "down idle-1")
}

func TestP30_2DownNotAfterARefusedIncrease(t *testing.T) {
	c := conf()
	c.Use = 500
	s := newScene(t, c, 1, nil, of("g", 0, 9), of("tiny", 0, 9))
	want(t, s.w.Increase("tiny", 1), api.OK)
	s.w.Pass()
	want(t, s.w.Taint("tiny-1", api.Taint{Key: "a", Effect: api.NoSchedule}), api.OK)
	want(t, s.w.Break("g", true), api.OK)
	want(t, s.w.Break("tiny", true), api.OK)
	s.add(pod("p", 900))
	s.tickOnly("refused g")
	s.tickOnly("refused tiny")
	// Now both groups rest, so that nothing is asked.
	s.tickOnly("down tiny-1")
}

func TestP30_2DownNotInTheTickOfAnIncrease(t *testing.T) {
	c := conf()
	c.Use, c.Long = 500, 1
	s := newScene(t, c, 1, nil, of("g", 0, 9), of("tiny", 0, 9))
	want(t, s.w.Increase("tiny", 1), api.OK)
	s.w.Pass()
	want(t, s.w.Taint("tiny-1", api.Taint{Key: "a", Effect: api.NoSchedule}), api.OK)
	s.add(pod("p", 900))
	// The idle machine is noted in this tick.
	s.tick("up g 1")
	s.add(pod("q", 900))
	s.tick("up g 1")
	s.tick("down tiny-1")
}

func TestP30_2DownNotWhileAMachineIsDrained(t *testing.T) {
	c := conf()
	c.Use = 500
	s := newScene(t, c, 1, nil, of("g", 0, 9))
	want(t, s.w.Increase("g", 2), api.OK)
	s.w.Pass()
	s.ticks("down g-1", "delete g-1", "gone g-1, down g-2", "delete g-2", "gone g-2")
}

func TestP30_2DownForgetsTheIdleTime(t *testing.T) {
	c := conf()
	c.Use, c.Long = 500, 2
	budgets := []api.Budget{{Name: "b", Match: []api.Label{{Key: "app", Val: "x"}}, Least: 1}}
	s := newScene(t, c, 1, budgets, of("g", 0, 9))
	want(t, s.w.Increase("g", 2), api.OK)
	s.w.Pass()
	s.add(pod("p", 100), pod("q", 900))
	s.w.Pass()
	s.ticks("", "")
	s.tickOnly("down g-1")
	want(t, s.w.DropPod("q"), api.OK)
	// The draining ends at once; then the machine has to be idle for two ticks again.
	s.tickOnly("stop g-1")
	s.add(pod("q", 900))
	s.w.Pass()
	s.ticks("", "down g-1")
}

func TestP30_2UpRegardsWhereOtherPodsRun(t *testing.T) {
	far := pod("far", 1)
	far.Apart, far.Wide = far.Labels, true
	g := of("g", 1, 9)
	g.Like.Labels = []api.Label{{Key: "zone", Val: "z"}}
	s := newScene(t, conf(), 1, nil, g)
	s.add(pod("p", 900))
	s.w.Pass()
	s.add(far)
	s.tick("hopeless far")
}

func TestP30_2HealthyAtTheLimit(t *testing.T) {
	c := conf()
	c.Share = 500
	s := newScene(t, c, 1, nil, of("g", 2, 6))
	want(t, s.w.Ready("g-1", false), api.OK)
	s.add(pod("p", 900), pod("q", 900))
	s.tick("up g 1")
}

func TestP30_2DownOnlyWithARecordedIdleTime(t *testing.T) {
	c := conf()
	c.Use, c.Long = 500, 2
	s := newScene(t, c, 1, nil, of("g", 0, 9))
	want(t, s.w.Increase("g", 1), api.OK)
	s.w.Pass()
	s.ticks("", "")
	s.add(pod("p", 900))
	s.w.Pass()
	s.tick("")
	want(t, s.w.DropPod("p"), api.OK)
	s.ticks("", "", "down g-1")
}

func TestP30_2DownRegardsBudgetsAndBlockers(t *testing.T) {
	c := conf()
	c.Use = 500
	budgets := []api.Budget{{Name: "b", Match: []api.Label{{Key: "app", Val: "x"}}, Least: 1}}
	s := newScene(t, c, 1, budgets, of("g", 0, 9))
	want(t, s.w.Increase("g", 2), api.OK)
	s.w.Pass()
	s.add(pod("p", 100))
	s.w.Pass()
	s.ticks("down g-2", "delete g-2", "gone g-2", "")
	alone := pod("q", 100)
	alone.Owner = ""
	s.add(alone, pod("r", 900))
	s.tick("up g 1")
	s.ticks("", "")
}

func TestP30_2DownStopsAfterGrace(t *testing.T) {
	c := conf()
	c.Use, c.Grace, c.Long = 500, 1, 2
	budgets := []api.Budget{{Name: "b", Match: []api.Label{{Key: "app", Val: "x"}}, Least: 2}}
	s := newScene(t, c, 1, budgets, of("g", 1, 9))
	want(t, s.w.Increase("g", 2), api.OK)
	s.w.Pass()
	s.add(pod("p", 600), pod("q", 600), pod("r", 300))
	s.w.Pass()
	s.ticks("", "")
	s.tickOnly("down g-3")
	want(t, s.w.DropPod("p"), api.OK)
	s.w.Pass()
	s.tick("")
	s.tick("stop g-3")
}

func TestP30_3BusyAndResting(t *testing.T) {
	c := conf()
	c.Use = 500
	s := newScene(t, c, 1, nil, of("g", 0, 9), of("h", 0, 9))
	want(t, s.w.Increase("h", 1), api.OK)
	want(t, s.w.Increase("g", 2), api.OK)
	want(t, s.w.Fail("h-1"), api.OK)
	want(t, s.w.Fail("g-1"), api.OK)
	s.tick("clean h-1, clean g-1")
	if got := s.a.Resting(); !slices.Equal(got, []string{"h", "g"}) {
		t.Error(got)
	}
	s.tick("down g-2")
	if got := s.a.Busy(); !slices.Equal(got, []string{"g-2"}) {
		t.Error(got)
	}
}

func TestP30_4NoRequestAnyMore(t *testing.T) {
	c := conf()
	c.Batch, c.Caps = 5, api.Caps{Nodes: 20}
	gs := []api.Group{of("g", 1, 4), of("h", 0, 5)}
	gs[1].Like.Has.Cpu = 3000
	s := newScene(t, c, 3, nil, gs...)
	pods := 15
	for i := range pods {
		s.add(pod("p"+strconv.Itoa(i), 150*(i%9)+100))
	}
	for range (9+1)*(3+1) + pods {
		s.a.Tick(s.w)
		s.w.Pass()
		if g, h := s.w.Target("g"), s.w.Target("h"); g < 1 || g > 4 || h < 0 || h > 5 {
			t.Error("targets", g, h)
		}
	}
	calls := s.w.Calls()
	for range 30 {
		s.a.Tick(s.w)
		s.w.Pass()
	}
	if s.w.Calls() != calls || calls == 0 {
		t.Error("requests", calls, s.w.Calls())
	}
	for _, b := range s.w.Bounds() {
		if b.On == "" && b.Pod.Need.Cpu < 1000 {
			t.Error("pending", b)
		}
	}
}

package cloud_test

import (
	"math"
	"slices"
	"testing"

	"trireme/api"
	"trireme/cloud"
)

func of(name string, min, max int) api.Group {
	return api.Group{Name: name, Min: min, Max: max, Like: api.Machine{Group: name, Has: api.Res{Cpu: 1000, Pods: 5}, Ready: true, Labels: []api.Label{{Key: "a"}}}}
}

func inst(group, name string, state, left, since int) api.Inst {
	return api.Inst{Name: name, Group: group, State: state, Left: left, Since: since}
}

func fresh(t *testing.T, delay int, l ...api.Group) *cloud.Cloud {
	t.Helper()
	c, e := cloud.New(l, delay)
	if e != api.OK {
		t.Fatal(e)
	}
	return c
}

func want(t *testing.T, got, want api.Errno) {
	t.Helper()
	if got != want {
		t.Errorf("got %d, want %d", got, want)
	}
}

func check(t *testing.T, c *cloud.Cloud, now, calls int, insts ...api.Inst) {
	t.Helper()
	if got := c.Insts(); !slices.Equal(got, insts) {
		t.Error("instances", got)
	}
	if c.Now() != now || c.Calls() != calls {
		t.Error("now", c.Now(), "calls", c.Calls())
	}
}

func TestNoObject(t *testing.T) {
	for _, c := range []*cloud.Cloud{nil, {}} {
		for _, e := range []api.Errno{c.Increase("g", 1), c.Delete("g-1"), c.Decrease("g", 0), c.Break("g", true), c.Fail("g-1")} {
			want(t, e, api.ErrNil)
		}
		c.Tick()
		if c.Now() != 0 || c.Target("g") != 0 || c.Insts() != nil || c.Calls() != 0 || c.Copy() != nil {
			t.Error("a result of an object that is none")
		}
	}
}

func TestP17_1New(t *testing.T) {
	c := fresh(t, 1, of("h", 2, 5), of("e", 0, 1), of("g", 1, 3))
	check(t, c, 0, 0, inst("h", "h-1", api.Running, 0, 0), inst("h", "h-2", api.Running, 0, 0), inst("g", "g-1", api.Running, 0, 0))
	for name, target := range map[string]int{"h": 2, "e": 0, "g": 1, "x": 0} {
		if got := c.Target(name); got != target {
			t.Error(name, got)
		}
	}
	check(t, fresh(t, 1000), 0, 0)
	for _, bad := range []struct {
		l     []api.Group
		delay int
		want  api.Errno
	}{
		{[]api.Group{of("g", 1, 3), of("g", 0, 1)}, 1, api.ErrForm}, {[]api.Group{of("g", 2, 1)}, 0, api.ErrForm},
		{nil, 0, api.ErrArg}, {nil, 1001, api.ErrArg}, {[]api.Group{of("g", 0, 1)}, -1, api.ErrArg}, {nil, math.MinInt, api.ErrArg},
	} {
		if c, e := cloud.New(bad.l, bad.delay); c != nil || e != bad.want {
			t.Error(bad, c, e)
		}
	}
}

func TestP17_1GroupsAreNotRetained(t *testing.T) {
	l := []api.Group{of("g", 1, 3)}
	c := fresh(t, 1, l...)
	l[0].Max, l[0].Name = 1, "h"
	want(t, c.Increase("g", 2), api.OK)
	got := c.Insts()
	got[0].Name = "x"
	if c.Insts()[0].Name != "g-1" {
		t.Error("Insts is a new list")
	}
}

func TestP17_2Increase(t *testing.T) {
	c := fresh(t, 2, of("g", 1, 4), of("h", 0, 2))
	want(t, c.Increase("x", 0), api.ErrNone)
	for _, n := range []int{0, -1, math.MinInt} {
		want(t, c.Increase("g", n), api.ErrArg)
	}
	for _, n := range []int{4, 200, math.MaxInt} {
		want(t, c.Increase("g", n), api.ErrMax)
	}
	check(t, c, 0, 0, inst("g", "g-1", api.Running, 0, 0))
	c.Tick()
	want(t, c.Increase("h", 1), api.OK)
	want(t, c.Increase("g", 2), api.OK)
	g1 := inst("g", "g-1", api.Running, 0, 0)
	check(t, c, 1, 2, g1, inst("h", "h-1", api.Creating, 2, 1), inst("g", "g-2", api.Creating, 2, 1), inst("g", "g-3", api.Creating, 2, 1))
	if c.Target("g") != 3 || c.Target("h") != 1 {
		t.Error(c.Target("g"), c.Target("h"))
	}
	want(t, c.Break("g", true), api.OK)
	want(t, c.Increase("g", 1), api.ErrCloud)
	want(t, c.Increase("g", 2), api.ErrMax)
	want(t, c.Increase("g", 0), api.ErrArg)
	want(t, c.Increase("h", 1), api.OK)
	want(t, c.Break("g", false), api.OK)
	if c.Target("g") != 3 || c.Calls() != 3 {
		t.Error("a refused call changes nothing")
	}
	want(t, c.Increase("g", 1), api.OK)
	want(t, c.Increase("g", 1), api.ErrMax)
}

func TestP17_3Delete(t *testing.T) {
	c := fresh(t, 2, of("g", 1, 4))
	want(t, c.Delete("g-2"), api.ErrNone)
	want(t, c.Delete("g-1"), api.ErrMin)
	want(t, c.Increase("g", 3), api.OK)
	want(t, c.Fail("g-2"), api.OK)
	want(t, c.Delete("g-1"), api.OK)
	want(t, c.Delete("g-1"), api.ErrState)
	want(t, c.Delete("g-2"), api.OK)
	want(t, c.Delete("g-3"), api.OK)
	if c.Target("g") != 1 || c.Calls() != 4 {
		t.Error(c.Target("g"), c.Calls())
	}
	want(t, c.Delete("g-4"), api.OK)
	if c.Target("g") != 1 {
		t.Error("the target does not fall below Min", c.Target("g"))
	}
	check(t, c, 0, 5, inst("g", "g-1", api.Leaving, 1, 0), inst("g", "g-2", api.Leaving, 1, 0), inst("g", "g-3", api.Leaving, 1, 0), inst("g", "g-4", api.Leaving, 1, 0))
	want(t, c.Delete("g-4"), api.ErrState)
	c.Tick()
	check(t, c, 1, 5)
	want(t, c.Delete("g-1"), api.ErrNone)
	want(t, c.Increase("g", 1), api.OK)
	check(t, c, 1, 6, inst("g", "g-5", api.Creating, 2, 1))
}

func TestP17_3DeleteFailedAtMin(t *testing.T) {
	c := fresh(t, 1, of("g", 1, 4))
	want(t, c.Increase("g", 1), api.OK)
	want(t, c.Fail("g-2"), api.OK)
	want(t, c.Delete("g-1"), api.OK)
	want(t, c.Delete("g-2"), api.OK)
	if c.Target("g") != 1 {
		t.Error(c.Target("g"))
	}
}

func TestP17_3Decrease(t *testing.T) {
	c := fresh(t, 1, of("g", 2, 6))
	want(t, c.Decrease("x", 0), api.ErrNone)
	want(t, c.Decrease("g", 0), api.ErrArg)
	want(t, c.Decrease("g", math.MinInt), api.ErrArg)
	want(t, c.Decrease("g", 1), api.ErrMin)
	want(t, c.Increase("g", 3), api.OK)
	want(t, c.Fail("g-3"), api.OK)
	for _, n := range []int{1, 3, 5, 6, math.MaxInt} {
		want(t, c.Decrease("g", n), api.ErrMin)
	}
	if c.Target("g") != 5 || c.Calls() != 1 {
		t.Error(c.Target("g"), c.Calls())
	}
}

func TestP17_3DecreaseDownToTheSizeAndMin(t *testing.T) {
	// The target exceeds the size only if instances that leave did not lower it: those deleted at Min.
	c := fresh(t, 1, of("g", 2, 6))
	want(t, c.Increase("g", 2), api.OK)
	want(t, c.Fail("g-3"), api.OK)
	want(t, c.Fail("g-4"), api.OK)
	want(t, c.Delete("g-1"), api.OK)
	want(t, c.Delete("g-2"), api.OK)
	want(t, c.Delete("g-3"), api.OK)
	want(t, c.Delete("g-4"), api.OK)
	if c.Target("g") != 2 {
		t.Fatal(c.Target("g"))
	}
	want(t, c.Increase("g", 2), api.OK)
	want(t, c.Decrease("g", 3), api.ErrMin)
	want(t, c.Decrease("g", 1), api.OK)
	want(t, c.Decrease("g", 2), api.ErrMin)
	want(t, c.Decrease("g", 1), api.OK)
	want(t, c.Decrease("g", 1), api.ErrMin)
	if c.Target("g") != 2 || c.Calls() != 8 {
		t.Error(c.Target("g"), c.Calls())
	}
}

func TestP17_4BreakAndFail(t *testing.T) {
	c := fresh(t, 2, of("g", 1, 6), of("h", 0, 2))
	want(t, c.Break("x", true), api.ErrNone)
	want(t, c.Fail("g-2"), api.ErrNone)
	want(t, c.Fail("g-1"), api.ErrState)
	want(t, c.Increase("g", 2), api.OK)
	want(t, c.Increase("h", 1), api.OK)
	want(t, c.Fail("g-3"), api.OK)
	want(t, c.Fail("g-3"), api.ErrState)
	want(t, c.Break("g", true), api.OK)
	g1, h1 := inst("g", "g-1", api.Running, 0, 0), inst("h", "h-1", api.Creating, 2, 0)
	check(t, c, 0, 2, g1, inst("g", "g-2", api.Creating, 2, 0), inst("g", "g-3", api.Failed, 0, 0), h1)
	c.Tick()
	h1.Left = 1
	check(t, c, 1, 2, g1, inst("g", "g-2", api.Creating, 1, 0), inst("g", "g-3", api.Failed, 0, 0), h1)
	c.Tick()
	h1.Left, h1.State = 0, api.Running
	check(t, c, 2, 2, g1, inst("g", "g-2", api.Failed, 0, 0), inst("g", "g-3", api.Failed, 0, 0), h1)
	want(t, c.Break("g", false), api.OK)
	want(t, c.Increase("g", 1), api.OK)
	c.Tick()
	c.Tick()
	check(t, c, 4, 3, g1, inst("g", "g-2", api.Failed, 0, 0), inst("g", "g-3", api.Failed, 0, 0), h1, inst("g", "g-4", api.Running, 0, 2))
	want(t, c.Delete("g-2"), api.OK)
	want(t, c.Fail("g-2"), api.ErrState)
}

func TestP17_4BreakWhileCreating(t *testing.T) {
	c := fresh(t, 2, of("g", 0, 6))
	want(t, c.Increase("g", 1), api.OK)
	want(t, c.Break("g", true), api.OK)
	c.Tick()
	want(t, c.Break("g", false), api.OK)
	c.Tick()
	check(t, c, 2, 1, inst("g", "g-1", api.Running, 0, 0))
}

func TestP17_5Tick(t *testing.T) {
	c := fresh(t, 2, of("g", 1, 3))
	want(t, c.Increase("g", 2), api.OK)
	g1 := inst("g", "g-1", api.Running, 0, 0)
	c.Tick()
	check(t, c, 1, 1, g1, inst("g", "g-2", api.Creating, 1, 0), inst("g", "g-3", api.Creating, 1, 0))
	c.Tick()
	check(t, c, 2, 1, g1, inst("g", "g-2", api.Running, 0, 0), inst("g", "g-3", api.Running, 0, 0))
	want(t, c.Increase("g", 1), api.ErrMax)
	want(t, c.Delete("g-2"), api.OK)
	want(t, c.Increase("g", 1), api.OK)
	c.Tick()
	check(t, c, 3, 3, g1, inst("g", "g-3", api.Running, 0, 0), inst("g", "g-4", api.Creating, 1, 2))
}

func TestP17_5Copy(t *testing.T) {
	c := fresh(t, 2, of("g", 1, 5))
	want(t, c.Increase("g", 1), api.OK)
	want(t, c.Break("g", true), api.OK)
	c.Tick()
	d := c.Copy()
	check(t, d, 1, 1, c.Insts()...)
	want(t, d.Increase("g", 1), api.ErrCloud)
	want(t, d.Break("g", false), api.OK)
	want(t, d.Increase("g", 1), api.OK)
	want(t, d.Delete("g-2"), api.OK)
	d.Tick()
	g1 := inst("g", "g-1", api.Running, 0, 0)
	check(t, c, 1, 1, g1, inst("g", "g-2", api.Creating, 1, 0))
	want(t, c.Increase("g", 1), api.ErrCloud)
	c.Tick()
	check(t, c, 2, 1, g1, inst("g", "g-2", api.Failed, 0, 0))
	check(t, d, 2, 3, g1, inst("g", "g-3", api.Creating, 1, 1))
	if c.Target("g") != 2 || d.Target("g") != 2 {
		t.Error(c.Target("g"), d.Target("g"))
	}
	one := c.Copy()
	want(t, one.Delete("g-2"), api.OK)
	if c.Insts()[1].State != api.Failed || c.Target("g") != 2 {
		t.Error("the copy shares its instances")
	}
	if e := d.Copy().Increase("g", 1); e != api.OK {
		t.Error("a copy of a copy", e)
	}
}

func TestP17_6Properties(t *testing.T) {
	c := fresh(t, 3, of("g", 1, 5), of("h", 0, 9))
	seen := map[string]int{}
	for i := range 60 {
		c.Increase("g", i%3+1)
		c.Increase("h", i%4)
		c.Delete("g-" + string(rune('1'+i%9)))
		c.Decrease("h", i%2)
		c.Break("h", i%7 < 2)
		for _, x := range c.Insts() {
			if at, ok := seen[x.Name]; ok && at != x.Since {
				t.Error("a name was assigned twice", x)
			}
			seen[x.Name] = x.Since
		}
		if g, h := c.Target("g"), c.Target("h"); g < 1 || g > 5 || h < 0 || h > 9 {
			t.Error("targets", g, h)
		}
		c.Tick()
	}
	for range 4 {
		c.Tick()
	}
	for _, x := range c.Insts() {
		if x.State == api.Creating || x.State == api.Leaving {
			t.Error("after delay + 1 ticks", x)
		}
	}
}

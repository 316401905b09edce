package auto_test

import (
	"strconv"
	"strings"
	"testing"

	"trireme/api"
	"trireme/auto"
	"trireme/budget"
	"trireme/caps"
	"trireme/health"
	"trireme/trace"
	"trireme/world"
	"trireme/yard"
)

// chance yields numbers that look random and are always the same.
type chance struct{ seed int }

func (c *chance) below(n int) int {
	c.seed = (1103515245*c.seed + 12345) % (1 << 31)
	return (c.seed >> 8) % n
}

// randomGroups returns up to three groups, some of which are alike.
func (c *chance) randomGroups() []api.Group {
	var gs []api.Group
	for i := range 1 + c.below(3) {
		g := of("g"+strconv.Itoa(i), c.below(3), 3+c.below(6))
		g.Like.Has.Cpu = 1000 * (1 + c.below(2))
		g.Like.Labels = []api.Label{{Key: yard.Zone, Val: strconv.Itoa(c.below(2))}}
		gs = append(gs, g)
	}
	return gs
}

func (c *chance) randomPod(name string) api.Pod {
	p := pod(name, 100+100*c.below(10))
	p.Rank = c.below(3)
	switch c.below(8) {
	case 0:
		p.Apart, p.Wide = p.Labels, c.below(2) == 0
	case 1:
		p.Daemon = true
	case 2:
		p.Owner = ""
	case 3:
		p.Labels = nil
	}
	return p
}

func (c *chance) randomConf() api.Conf {
	return api.Conf{
		How: 1 + c.below(4), Use: 100 * c.below(9), Long: c.below(3), Calm: c.below(3), Grace: c.below(3), Wait: 1 + c.below(5), Share: 300 + 100*c.below(8),
		First: 1 + c.below(3), Most: 3 + c.below(9), Reset: 1 + c.below(30), Batch: 1 + c.below(4), Even: c.below(2) == 0,
		Caps: api.Caps{Nodes: c.below(2) * (8 + c.below(9)), Cpu: c.below(2) * (9000 + 1000*c.below(9))},
	}
}

// disturb lets something happen in the world.
func (c *chance) disturb(w *world.World, gs []api.Group, step int) {
	name := gs[c.below(len(gs))].Name
	instance := name + "-" + strconv.Itoa(1+c.below(9))
	switch c.below(9) {
	case 0, 1, 2:
		w.AddPod(c.randomPod("p" + strconv.Itoa(step)))
	case 3, 4:
		w.DropPod("p" + strconv.Itoa(c.below(step+1)))
	case 5:
		w.Break(name, c.below(3) == 0)
	case 6:
		w.Fail(instance)
	case 7:
		w.Hold(instance, c.below(2) == 0)
	case 8:
		w.Ready(instance, c.below(4) > 0)
	}
}

// observe performs a Tick and checks what holds of every Tick.
func observe(t *testing.T, a *auto.Auto, w *world.World, gs []api.Group, most api.Caps, l []api.Budget) []string {
	t.Helper()
	limited := len(w.Missing()) == 0 && caps.Within(most, w.Machines())
	var spares []int
	for _, b := range l {
		spares = append(spares, budget.Spare(b, w.Bounds()))
	}
	messages := a.Tick(w)
	for _, g := range gs {
		if n := w.Target(g.Name); n < g.Min || n > g.Max {
			t.Error("target", g.Name, n)
		}
	}
	raised := strings.Contains(strings.Join(messages, ","), "raise")
	if limited && !raised && !caps.Within(most, append(w.Machines(), health.Guests(gs, w.Missing())...)) {
		t.Error("caps", messages)
	}
	for i, b := range l {
		if n := budget.Spare(b, w.Bounds()); n < 0 && n < spares[i] {
			t.Error("budget", n, messages)
		}
	}
	return messages
}

func TestWholeInDisturbedWorlds(t *testing.T) {
	for seed := range 150 {
		c := &chance{seed}
		gs, conf := c.randomGroups(), c.randomConf()
		l := []api.Budget{{Name: "b", Match: []api.Label{{Key: "app", Val: "x"}}, Least: c.below(4)}}
		a, e := auto.New(gs, conf)
		want(t, e, api.OK)
		w, e := world.New(gs, l, 1+c.below(3))
		want(t, e, api.OK)
		var lines strings.Builder
		for step := range 80 {
			if step < 50 {
				c.disturb(w, gs, step)
			}
			now := strconv.Itoa(w.Now())
			calls := w.Calls()
			messages := observe(t, a, w, gs, conf.Caps, l)
			tick := ""
			for _, m := range messages {
				tick += now + ": " + m + "\n"
			}
			events, e, at := trace.Parse(tick)
			if e != api.OK || trace.Calls(events) != w.Calls()-calls {
				t.Error("messages and calls", seed, at, messages)
			}
			lines.WriteString(tick)
			w.Pass()
		}
		events, _, _ := trace.Parse(lines.String())
		if i := trace.Check(events); i >= 0 {
			t.Error("inconsistent", seed, events[i])
		}
		if t.Failed() {
			t.Fatal(seed, lines.String())
		}
	}
}

func TestWholeConverges(t *testing.T) {
	for seed := range 60 {
		c := &chance{seed + 1000}
		gs, conf := c.randomGroups(), c.randomConf()
		conf.Use, conf.Share, conf.Wait = 0, 1000, 100
		a, _ := auto.New(gs, conf)
		delay, pods := 1+c.below(3), c.below(20)
		w, _ := world.New(gs, nil, delay)
		for i := range pods {
			want(t, w.AddPod(c.randomPod("p"+strconv.Itoa(i))), api.OK)
		}
		sum := 0
		for _, g := range gs {
			sum += g.Max
		}
		for range (sum+1)*(delay+1) + pods {
			observe(t, a, w, gs, conf.Caps, nil)
			w.Pass()
		}
		calls := w.Calls()
		for range 20 {
			a.Tick(w)
			w.Pass()
		}
		if w.Calls() != calls {
			t.Error("requests", seed, calls, w.Calls())
		}
	}
}

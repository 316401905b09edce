package auto

import (
	"strconv"

	"trireme/api"
	"trireme/block"
	"trireme/caps"
	"trireme/expand"
	"trireme/group"
	"trireme/health"
	"trireme/option"
	"trireme/plan"
	"trireme/sched"
	"trireme/similar"
	"trireme/world"
	"trireme/yard"
)

// tick is one tick of an autoscaler.
type tick struct {
	*Auto
	w        *world.World
	now      int
	messages []string
	asked    bool // whether the phase up made a request that the provider accepted or refused
}

// run performs the phases until one of them ends the tick.
func (t *tick) run() []string {
	phases := []func() bool{t.clean, t.fix, t.health, t.raise, t.drain, t.up, t.down}
ticking:
	for _, phase := range phases {
		if !phase() {
			break ticking
		}
	}
	return t.messages
}

func (t *tick) say(what, name string) {
	t.messages = append(t.messages, what+" "+name)
}

func (t *tick) sayNumber(what, name string, n int) {
	t.say(what, name+" "+strconv.Itoa(n))
}

func (t *tick) fails(group string) {
	t.resting.Fail(group, t.now)
}

// clean deletes the instances that failed or are late.
func (t *tick) clean() bool {
	for _, x := range health.Late(t.w.Missing(), t.now, t.conf.Wait) {
		if t.w.Delete(x.Name) == api.OK {
			t.say("clean", x.Name)
		}
		t.fails(x.Group)
	}
	return true
}

// fix lowers the targets that exceed what exists.
func (t *tick) fix() bool {
	for _, g := range t.groups {
		n := t.w.Target(g.Name) - t.size(g)
		if n > 0 && t.w.Decrease(g.Name, n) == api.OK {
			t.sayNumber("fix", g.Name, n)
		}
	}
	return true
}

// size returns the number of the group's instances that are not leaving.
func (t *tick) size(g api.Group) int {
	return health.Size(t.w.Insts(), g.Name)
}

// health ends the tick if too many machines are not ready.
func (t *tick) health() bool {
	if health.Share(t.w.Machines()) <= t.conf.Share {
		return true
	}
	t.messages = append(t.messages, "unhealthy")
	return false
}

// raise requests what groups lack to their Min.
func (t *tick) raise() bool {
	for _, g := range t.groups {
		n := g.Min - t.size(g)
		if n > 0 && t.resting.May(g.Name, t.now) {
			t.increase("raise", g.Name, n)
		}
	}
	return true
}

// increase requests n machines, and returns what the provider says.
func (t *tick) increase(what, name string, n int) api.Errno {
	e := t.w.Increase(name, n)
	switch e {
	case api.OK:
		t.sayNumber(what, name, n)
	case api.ErrCloud:
		t.say("refused", name)
		t.fails(name)
	}
	return e
}

// drain goes on with the machines being drained.
func (t *tick) drain() bool {
	t.messages = append(t.messages, t.drained.Step(t.w)...)
	return true
}

// up requests machines for the pods that cannot be scheduled.
func (t *tick) up() bool {
	coming := health.Coming(t.w.Missing(), t.now, t.conf.Wait)
	ms := append(t.w.Machines(), health.Guests(t.groups, coming)...)
	bs, pods := t.expected(ms)
	if len(pods) == 0 {
		return true
	}
	for _, name := range option.Hopeless(ms, bs, pods, t.groups) {
		t.say("hopeless", name)
	}
	rooms := t.rooms(ms)
	options := option.All(ms, bs, pods, t.groups, rooms)
	i := expand.Choose(options, t.conf.How, t.seed)
	if i < 0 {
		return true
	}
	if t.conf.How == api.ByChance {
		t.seed = expand.Next(t.seed)
	}
	for at, n := range t.shares(options[i], rooms) {
		if n > 0 {
			t.request(t.groups[at].Name, n)
		}
	}
	return true
}

// expected returns the pods that run, or will run, on the machines, and those that cannot be scheduled.
func (t *tick) expected(ms []api.Machine) ([]api.Bound, []api.Pod) {
	next, _ := sched.Step(ms, t.w.Bounds())
	var bs []api.Bound
	var pods []api.Pod
	for _, b := range next {
		if b.On == "" {
			pods = append(pods, b.Pod)
		} else {
			bs = append(bs, b)
		}
	}
	return bs, pods
}

// rooms returns by how many machines each group may grow.
func (t *tick) rooms(ms []api.Machine) []int {
	rooms := make([]int, len(t.groups))
	for i, g := range t.groups {
		if t.resting.May(g.Name, t.now) {
			room := min(g.Max-t.w.Target(g.Name), caps.Room(t.conf.Caps, ms, g.Like))
			rooms[i] = max(room, 0)
		}
	}
	return rooms
}

// shares returns by how many machines each group is to grow for the option.
func (t *tick) shares(o api.Option, rooms []int) []int {
	shares := make([]int, len(t.groups))
	if !t.conf.Even {
		shares[group.Find(t.groups, o.Group)] = o.Count
		return shares
	}
	like := similar.Of(t.groups, o.Group)
	var sizes, mosts []int
	for _, i := range like {
		target := t.w.Target(t.groups[i].Name)
		sizes = append(sizes, target)
		mosts = append(mosts, target+rooms[i])
	}
	for k, n := range similar.Share(o.Count, sizes, mosts) {
		shares[like[k]] = n
	}
	return shares
}

// request requests n machines for pods that cannot be scheduled.
func (t *tick) request(name string, n int) {
	switch t.increase("up", name, n) {
	case api.OK:
		t.asked, t.increased, t.lastIncrease = true, true, t.now
	case api.ErrCloud:
		t.asked = true
	}
}

// down begins to drain machines that have been idle for long.
func (t *tick) down() bool {
	busy := t.drained.Busy()
	ms, bs := t.w.Machines(), t.w.Bounds()
	t.idle.Note(block.Idle(plan.Without(ms, busy), bs, t.conf.Use), t.now)
	calm := !t.increased || t.now-t.lastIncrease >= t.conf.Calm
	if t.asked || !calm || len(busy) > 0 {
		return false
	}
	plans, _ := plan.Many(ms, bs, t.w.Budgets(), t.eligible(ms), t.conf.Batch)
	for _, p := range plans {
		if t.drained.Start(t.w, p.Name) == api.OK {
			t.say("down", p.Name)
			t.idle.Drop(p.Name)
		}
	}
	return true
}

// eligible returns the machines that have been idle for long and that their groups can spare.
func (t *tick) eligible(ms []api.Machine) []string {
	var names []string
	found := make([]int, len(t.groups)) // the number of eligible machines of each group
	for _, name := range t.idle.Ripe(t.now, t.conf.Long) {
		i := group.Find(t.groups, groupOf(ms, name))
		if i >= 0 && t.w.Target(t.groups[i].Name)-found[i] > t.groups[i].Min {
			found[i]++
			names = append(names, name)
		}
	}
	return names
}

// groupOf returns the group of the machine of that name, or the empty string if it has none.
func groupOf(ms []api.Machine, name string) string {
	i := yard.Find(ms, name)
	if i < 0 {
		return ""
	}
	return ms[i].Group
}

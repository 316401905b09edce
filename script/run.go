package script

import (
	"strconv"
	"strings"

	"trireme/api"
	"trireme/auto"
	"trireme/world"
	"trireme/yard"
)

// run is a script that runs.
type run struct {
	world *world.World
	auto  *auto.Auto
	steps []step
	out   strings.Builder
}

func (r *run) print(line string) {
	r.out.WriteString(line)
	r.out.WriteByte('\n')
}

// report prints the error of a call, if there is one.
func (r *run) report(e api.Errno) {
	if e != api.OK {
		r.print("error " + strconv.Itoa(int(e)))
	}
}

// tick performs one tick of the autoscaler and then of the world.
func (r *run) tick() {
	now := strconv.Itoa(r.world.Now())
	for _, message := range r.auto.Tick(r.world) {
		r.print(now + ": " + message)
	}
	r.world.Pass()
}

// show prints which pods run on which machines.
func (r *run) show() {
	bounds := r.world.Bounds()
	for _, m := range r.world.Machines() {
		r.print(m.Name + ":" + names(yard.On(bounds, m.Name)))
	}
	if pending := yard.On(bounds, ""); len(pending) > 0 {
		r.print("pending:" + names(pending))
	}
}

// names returns the names of the pods, each after a blank.
func names(pods []api.Pod) string {
	var b strings.Builder
	for _, p := range pods {
		b.WriteString(" " + p.Name)
	}
	return b.String()
}

package script

import (
	"trireme/api"
	"trireme/world"
)

// call is a step that makes a call on the world with a name.
type call struct {
	name string
	do   func(w *world.World, name string) api.Errno
}

func calls() []call {
	return []call{
		{"drop", func(w *world.World, name string) api.Errno { return w.DropPod(name) }},
		{"ready", func(w *world.World, name string) api.Errno { return w.Ready(name, true) }},
		{"unready", func(w *world.World, name string) api.Errno { return w.Ready(name, false) }},
		{"hold", func(w *world.World, name string) api.Errno { return w.Hold(name, true) }},
		{"free", func(w *world.World, name string) api.Errno { return w.Hold(name, false) }},
		{"break", func(w *world.World, name string) api.Errno { return w.Break(name, true) }},
		{"mend", func(w *world.World, name string) api.Errno { return w.Break(name, false) }},
		{"fail", func(w *world.World, name string) api.Errno { return w.Fail(name) }},
	}
}

package journal

import (
	"trireme/api"
	"trireme/world"
)

// podWhat is the one operation whose form is that of a pod.
const podWhat = "pod"

// Limits of the numbers of entries.
const (
	maxChange = 1000
	maxPasses = 100
)

// operation is what entries with the same What do.
type operation struct {
	what        string
	parts       []part
	least, most int // of the number
	do          func(w *world.World, e Entry) api.Errno
}

// find returns the operation of that name, and whether there is one.
func find(what string) (operation, bool) {
	for _, o := range operations() {
		if o.what == what {
			return o, true
		}
	}
	return operation{}, false
}

func operations() []operation {
	return append([]operation{
		{what: podWhat, do: func(w *world.World, e Entry) api.Errno { return w.AddPod(e.Pod) }},
		{what: "untaint", parts: []part{namePart, keyPart}, do: func(w *world.World, e Entry) api.Errno {
			return w.Untaint(e.Name, e.Taint.Key)
		}},
		{what: "taint", parts: []part{namePart, keyPart, valPart, effectPart}, do: func(w *world.World, e Entry) api.Errno {
			return w.Taint(e.Name, e.Taint)
		}},
		{what: "increase", parts: []part{namePart, numberPart}, most: maxChange, do: func(w *world.World, e Entry) api.Errno {
			return w.Increase(e.Name, e.N)
		}},
		{what: "decrease", parts: []part{namePart, numberPart}, most: maxChange, do: func(w *world.World, e Entry) api.Errno {
			return w.Decrease(e.Name, e.N)
		}},
		{what: "pass", parts: []part{numberPart}, least: 1, most: maxPasses, do: pass},
	}, named()...)
}

func pass(w *world.World, e Entry) api.Errno {
	for range e.N {
		w.Pass()
	}
	return api.OK
}

// named returns the operations that have a name and nothing else.
func named() []operation {
	on := func(what string, do func(w *world.World, name string) api.Errno) operation {
		return operation{what: what, parts: []part{namePart}, do: func(w *world.World, e Entry) api.Errno {
			return do(w, e.Name)
		}}
	}
	return []operation{
		on("drop", func(w *world.World, name string) api.Errno { return w.DropPod(name) }),
		on("ready", func(w *world.World, name string) api.Errno { return w.Ready(name, true) }),
		on("unready", func(w *world.World, name string) api.Errno { return w.Ready(name, false) }),
		on("hold", func(w *world.World, name string) api.Errno { return w.Hold(name, true) }),
		on("free", func(w *world.World, name string) api.Errno { return w.Hold(name, false) }),
		on("evict", func(w *world.World, name string) api.Errno { return w.Evict(name) }),
		on("delete", func(w *world.World, name string) api.Errno { return w.Delete(name) }),
		on("fail", func(w *world.World, name string) api.Errno { return w.Fail(name) }),
		on("break", func(w *world.World, name string) api.Errno { return w.Break(name, true) }),
		on("mend", func(w *world.World, name string) api.Errno { return w.Break(name, false) }),
	}
}

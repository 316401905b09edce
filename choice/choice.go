// Package choice selects the machine on which a pod is to run among those on which it can.
package choice

import (
	"cmp"
	"slices"

	"trireme/api"
	"trireme/res"
	"trireme/suit"
	"trireme/yard"
)

// candidate is a machine on which the pod can run.
type candidate struct {
	name    string
	prefers int // the number of taints for which the pod would rather not run there
	use     int // the utilization by all other pods
}

// Machine returns one of the names of machines of ms, or the empty string if there is none.
// It selects the machine with the fewest taints for which p would rather not run there, then the least utilized one, then the first one.
func Machine(ms []api.Machine, bs []api.Bound, p api.Pod, names []string) string {
	if len(names) == 0 {
		return ""
	}
	others := slices.DeleteFunc(slices.Clone(bs), func(b api.Bound) bool {
		return b.Pod.Name == p.Name
	})
	var candidates []candidate
	for _, name := range names {
		m := ms[yard.Find(ms, name)]
		used, _ := yard.Used(others, name)
		candidates = append(candidates, candidate{name, suit.Prefers(m, p), res.Share(used, m.Has)})
	}
	return slices.MinFunc(candidates, func(a, b candidate) int {
		return cmp.Or(cmp.Compare(a.prefers, b.prefers), cmp.Compare(a.use, b.use))
	}).name
}

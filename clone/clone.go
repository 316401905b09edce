// Package clone copies values of package api together with all of their slices, so that a copy shares no memory with its original.
package clone

import (
	"slices"

	"trireme/api"
)

// Pod returns a copy of a pod.
func Pod(p api.Pod) api.Pod {
	p.Labels = slices.Clone(p.Labels)
	p.Select = slices.Clone(p.Select)
	p.Terms = terms(p.Terms)
	p.Bears = slices.Clone(p.Bears)
	p.Ports = slices.Clone(p.Ports)
	p.Apart = slices.Clone(p.Apart)
	p.Spread = slices.Clone(p.Spread)
	return p
}

func terms(l []api.Term) []api.Term {
	return each(l, func(t api.Term) api.Term {
		t.Vals = slices.Clone(t.Vals)
		return t
	})
}

// Bounds returns a copy of a list of bound pods.
func Bounds(l []api.Bound) []api.Bound {
	return each(l, func(b api.Bound) api.Bound {
		b.Pod = Pod(b.Pod)
		return b
	})
}

// Machine returns a copy of a machine.
func Machine(m api.Machine) api.Machine {
	m.Labels = slices.Clone(m.Labels)
	m.Taints = slices.Clone(m.Taints)
	return m
}

// Machines returns a copy of a list of machines.
func Machines(l []api.Machine) []api.Machine {
	return each(l, Machine)
}

// Groups returns a copy of a list of groups.
func Groups(l []api.Group) []api.Group {
	return each(l, func(g api.Group) api.Group {
		g.Like = Machine(g.Like)
		return g
	})
}

// Budgets returns a copy of a list of budgets.
func Budgets(l []api.Budget) []api.Budget {
	return each(l, func(b api.Budget) api.Budget {
		b.Match = slices.Clone(b.Match)
		return b
	})
}

// each returns the copies of the elements of l.
func each[T any](l []T, copied func(T) T) []T {
	var copies []T
	for _, x := range l {
		copies = append(copies, copied(x))
	}
	return copies
}

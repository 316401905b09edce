package spec

import (
	"strconv"
	"strings"

	"trireme/api"
	"trireme/quant"
)

// form collects the parts of a List.
type form struct{ parts []string }

func newForm(parts ...string) *form {
	return &form{parts}
}

func (f *form) add(parts ...string) {
	f.parts = append(f.parts, "("+strings.Join(parts, " ")+")")
}

// flag adds a Word if it is set.
func (f *form) flag(name string, is bool) {
	if is {
		f.parts = append(f.parts, name)
	}
}

// number adds a field of one number, unless it is zero.
func (f *form) number(name string, n int) {
	if n != 0 {
		f.add(name, strconv.Itoa(n))
	}
}

func (f *form) labels(name string, l []api.Label) {
	for _, x := range l {
		f.add(name, x.Key, showAtom(x.Val))
	}
}

func (f *form) String() string {
	return "(" + strings.Join(f.parts, " ") + ")"
}

func showAtom(s string) string {
	if s == "" {
		return `""`
	}
	return s
}

// ShowPod returns the form of the pod, or the empty string if it is not valid.
func ShowPod(p api.Pod) string {
	if !RightPod(p) {
		return ""
	}
	f := newForm("pod", p.Name)
	f.add("need", quant.ShowMilli(p.Need.Cpu), quant.Show(p.Need.Mem), quant.Show(p.Need.Disk), strconv.Itoa(p.Need.Dev))
	f.labels("label", p.Labels)
	f.labels("select", p.Select)
	f.labels("apart", p.Apart)
	for _, t := range p.Terms {
		f.term(t)
	}
	for _, t := range p.Bears {
		f.toleration(t)
	}
	for _, n := range p.Ports {
		f.number("port", n)
	}
	f.number("spread", p.Skew)
	f.labels("over", p.Spread)
	f.number("rank", p.Rank)
	if p.Owner != "" {
		f.add("owner", p.Owner)
	}
	f.flag("wide", p.Wide)
	f.flag("daemon", p.Daemon)
	f.flag("pinned", p.Pinned)
	f.flag("local", p.Local)
	return f.String()
}

func (f *form) term(t api.Term) {
	parts := []string{"term", t.Key, operators[t.Op]}
	for _, v := range t.Vals {
		parts = append(parts, showAtom(v))
	}
	f.add(parts...)
}

func (f *form) toleration(t api.Toleration) {
	if t.Any {
		f.add("bearany", showAtom(t.Key), effects[t.Effect])
	} else {
		f.add("bear", showAtom(t.Key), showAtom(t.Val), effects[t.Effect])
	}
}

// ShowMachine returns the form of the machine, or the empty string if it is not valid.
func ShowMachine(m api.Machine) string {
	if !RightMachine(m) {
		return ""
	}
	f := newForm("machine", showAtom(m.Name))
	if m.Group != "" {
		f.add("group", m.Group)
	}
	f.like(m)
	f.flag("ready", m.Ready)
	return f.String()
}

// like adds the fields that machines and groups have in common.
func (f *form) like(m api.Machine) {
	f.add("has", quant.ShowMilli(m.Has.Cpu), quant.Show(m.Has.Mem), quant.Show(m.Has.Disk), strconv.Itoa(m.Has.Pods), strconv.Itoa(m.Has.Dev))
	f.labels("label", m.Labels)
	for _, x := range m.Taints {
		f.add("taint", x.Key, showAtom(x.Val), effects[x.Effect])
	}
}

// ShowGroup returns the form of the group, or the empty string if it is not valid.
func ShowGroup(g api.Group) string {
	if !RightGroup(g) {
		return ""
	}
	f := newForm("group", g.Name)
	f.add("size", strconv.Itoa(g.Min), strconv.Itoa(g.Max))
	f.number("price", g.Price)
	f.number("rank", g.Rank)
	f.like(g.Like)
	return f.String()
}

package script

import (
	"trireme/api"
	"trireme/auto"
	"trireme/quant"
	"trireme/tree"
)

// confField is a field of a configuration.
type confField struct {
	name   string
	values int
	set    func(c *api.Conf, n int)
}

func confFields() []confField {
	return []confField{
		{"how", 1, func(c *api.Conf, n int) { c.How = n }},
		{"seed", 1, func(c *api.Conf, n int) { c.Seed = n }},
		{"nodes", 1, func(c *api.Conf, n int) { c.Caps.Nodes = n }},
		{"cpu", 1, func(c *api.Conf, n int) { c.Caps.Cpu = n }},
		{"mem", 1, func(c *api.Conf, n int) { c.Caps.Mem = n }},
		{"use", 1, func(c *api.Conf, n int) { c.Use = n }},
		{"long", 1, func(c *api.Conf, n int) { c.Long = n }},
		{"calm", 1, func(c *api.Conf, n int) { c.Calm = n }},
		{"grace", 1, func(c *api.Conf, n int) { c.Grace = n }},
		{"wait", 1, func(c *api.Conf, n int) { c.Wait = n }},
		{"share", 1, func(c *api.Conf, n int) { c.Share = n }},
		{"first", 1, func(c *api.Conf, n int) { c.First = n }},
		{"most", 1, func(c *api.Conf, n int) { c.Most = n }},
		{"reset", 1, func(c *api.Conf, n int) { c.Reset = n }},
		{"batch", 1, func(c *api.Conf, n int) { c.Batch = n }},
		{"even", 0, func(c *api.Conf, _ int) { c.Even = true }},
	}
}

func findConfField(name string) (confField, bool) {
	for _, f := range confFields() {
		if f.name == name {
			return f, true
		}
	}
	return confField{}, false
}

// Conf returns the configuration whose tree begins at index i, or an error and its position.
func Conf(l []api.Node, i int) (api.Conf, api.Errno, int) {
	if tree.End(l, i) < 0 {
		return api.Conf{}, api.ErrForm, 0
	}
	if first(l, i) != "conf" {
		return api.Conf{}, api.ErrForm, l[i].At
	}
	var c api.Conf
	seen := map[string]int{}
	for _, at := range tree.Kids(l, i)[1:] {
		f, ok := findConfField(first(l, at))
		seen[f.name]++
		if !ok || seen[f.name] > 1 {
			return api.Conf{}, api.ErrField, l[at].At
		}
		if e, where := f.read(l, at, &c); e != api.OK {
			return api.Conf{}, e, where
		}
	}
	if !auto.Right(c) {
		return api.Conf{}, api.ErrArg, l[i].At
	}
	return c, api.OK, 0
}

// read sets the field at index i in c.
func (f confField) read(l []api.Node, i int, c *api.Conf) (api.Errno, int) {
	if l[i].Kids != 1+f.values {
		return api.ErrForm, l[i].At
	}
	n := 0
	for _, at := range tree.Kids(l, i)[1:] {
		if l[at].Kind != api.Word {
			return api.ErrKind, l[at].At
		}
		var e api.Errno
		if n, e = quant.Number(l[at].Text); e != api.OK {
			return e, l[at].At
		}
	}
	f.set(c, n)
	return api.OK, 0
}

// first returns the Word that is the first child of the List at i, or the empty string if there is none.
func first(l []api.Node, i int) string {
	if l[i].Kind != api.List || l[i].Kids == 0 || l[i+1].Kind != api.Word {
		return ""
	}
	return l[i+1].Text
}

package spec

import "trireme/api"

// text returns a value that is a word or an atom.
func text(v any) string {
	s, _ := v.(string)
	return s
}

// count returns a value that is a number.
func count(v any) int {
	n, _ := v.(int)
	return n
}

func podFields() []field[api.Pod] {
	return []field[api.Pod]{
		{name: "need", values: []kind{milli, amount, amount, number}, set: func(p *api.Pod, v []any) {
			p.Need.Cpu, p.Need.Mem, p.Need.Disk, p.Need.Dev = count(v[0]), count(v[1]), count(v[2]), count(v[3])
		}},
		labelField("label", func(p *api.Pod) *[]api.Label { return &p.Labels }),
		labelField("select", func(p *api.Pod) *[]api.Label { return &p.Select }),
		labelField("apart", func(p *api.Pod) *[]api.Label { return &p.Apart }),
		labelField("over", func(p *api.Pod) *[]api.Label { return &p.Spread }),
		{name: "term", values: []kind{word, operator}, more: true, repeat: true, set: addTerm},
		{name: "bear", values: []kind{atom, atom, effect}, repeat: true, set: func(p *api.Pod, v []any) {
			p.Bears = append(p.Bears, api.Toleration{Key: text(v[0]), Val: text(v[1]), Effect: count(v[2])})
		}},
		{name: "bearany", values: []kind{atom, effect}, repeat: true, set: func(p *api.Pod, v []any) {
			p.Bears = append(p.Bears, api.Toleration{Key: text(v[0]), Any: true, Effect: count(v[1])})
		}},
		{name: "port", values: []kind{number}, repeat: true, set: func(p *api.Pod, v []any) {
			p.Ports = append(p.Ports, count(v[0]))
		}},
		numberField("spread", func(p *api.Pod) *int { return &p.Skew }),
		numberField("rank", func(p *api.Pod) *int { return &p.Rank }),
		{name: "owner", values: []kind{word}, set: func(p *api.Pod, v []any) { p.Owner = text(v[0]) }},
		flagField("wide", func(p *api.Pod) *bool { return &p.Wide }),
		flagField("daemon", func(p *api.Pod) *bool { return &p.Daemon }),
		flagField("pinned", func(p *api.Pod) *bool { return &p.Pinned }),
		flagField("local", func(p *api.Pod) *bool { return &p.Local }),
	}
}

func machineFields() []field[api.Machine] {
	return append(likeFields(),
		field[api.Machine]{name: "group", values: []kind{word}, set: func(m *api.Machine, v []any) { m.Group = text(v[0]) }},
		flagField("ready", func(m *api.Machine) *bool { return &m.Ready }))
}

// likeFields returns the fields that machines and groups have in common.
func likeFields() []field[api.Machine] {
	return []field[api.Machine]{
		{name: "has", values: []kind{milli, amount, amount, number, number}, set: func(m *api.Machine, v []any) {
			m.Has = api.Res{Cpu: count(v[0]), Mem: count(v[1]), Disk: count(v[2]), Pods: count(v[3]), Dev: count(v[4])}
		}},
		labelField("label", func(m *api.Machine) *[]api.Label { return &m.Labels }),
		{name: "taint", values: []kind{word, atom, effect}, repeat: true, set: func(m *api.Machine, v []any) {
			m.Taints = append(m.Taints, api.Taint{Key: text(v[0]), Val: text(v[1]), Effect: count(v[2])})
		}},
	}
}

func groupFields() []field[api.Group] {
	fields := []field[api.Group]{
		{name: "size", values: []kind{number, number}, set: func(g *api.Group, v []any) {
			g.Min, g.Max = count(v[0]), count(v[1])
		}},
		numberField("price", func(g *api.Group) *int { return &g.Price }),
		numberField("rank", func(g *api.Group) *int { return &g.Rank }),
	}
	for _, f := range likeFields() {
		fields = append(fields, field[api.Group]{name: f.name, values: f.values, repeat: f.repeat, set: func(g *api.Group, v []any) {
			f.set(&g.Like, v)
		}})
	}
	return fields
}

func labelField[T any](name string, part func(*T) *[]api.Label) field[T] {
	return field[T]{name: name, values: []kind{word, atom}, repeat: true, set: func(x *T, v []any) {
		l := part(x)
		*l = append(*l, api.Label{Key: text(v[0]), Val: text(v[1])})
	}}
}

func numberField[T any](name string, part func(*T) *int) field[T] {
	return field[T]{name: name, values: []kind{number}, set: func(x *T, v []any) { *part(x) = count(v[0]) }}
}

func flagField[T any](name string, part func(*T) *bool) field[T] {
	return field[T]{name: name, set: func(x *T, _ []any) { *part(x) = true }}
}

func addTerm(p *api.Pod, v []any) {
	t := api.Term{Key: text(v[0]), Op: count(v[1])}
	for _, x := range v[2:] {
		t.Vals = append(t.Vals, text(x))
	}
	p.Terms = append(p.Terms, t)
}

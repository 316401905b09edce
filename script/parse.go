package script

import (
	"trireme/api"
	"trireme/quant"
	"trireme/spec"
	"trireme/tree"
)

const maxTicks = 100

// step is a step of a script.
type step struct{ do func(r *run) }

// script is a script that was parsed.
type script struct {
	delay   int
	conf    api.Conf
	groups  []api.Group
	budgets []api.Budget
	steps   []step
}

// section is a part of a script; the sections follow each other.
type section int

const (
	inGroups section = iota
	inBudgets
	inSteps
)

// parser parses the trees of a script.
type parser struct {
	script
	nodes   []api.Node
	section section
}

// parse returns the script, or its error and the position.
func parse(text string) (script, api.Errno, int) {
	nodes, e, at := tree.Parse(text)
	if e != api.OK {
		return script{}, e, at
	}
	p := parser{nodes: nodes}
	tops := tree.Tops(nodes)
	for k, i := range tops {
		parseTree := p.other
		switch k {
		case 0:
			parseTree = p.parseDelay
		case 1:
			parseTree = p.parseConf
		}
		if e, at := parseTree(i); e != api.OK {
			return script{}, e, at
		}
	}
	if len(tops) < 2 {
		return script{}, api.ErrForm, len(text)
	}
	return p.script, api.OK, 0
}

// kind is the kind of a value of a tree.
type kind interface{}

type (
	word   struct{}
	atom   struct{}
	number struct{}
)

// value is a value of a tree: a number, or the text of a word or an atom.
type value struct {
	number int
	text   string
}

// read returns the value of a node, which is to be of the kind k.
func read(n api.Node, k kind) (value, api.Errno) {
	switch k.(type) {
	case atom:
		if n.Kind == api.Text && n.Text == "" {
			return value{}, api.OK
		}
	case number:
		if n.Kind == api.Word {
			x, e := quant.Number(n.Text)
			return value{number: x}, e
		}
	}
	if n.Kind != api.Word {
		return value{}, api.ErrKind
	}
	return value{text: n.Text}, api.OK
}

// values returns the values of the tree at i, which is to have one of each of the kinds.
func (p *parser) values(i int, kinds ...kind) ([]value, api.Errno, int) {
	places := tree.Kids(p.nodes, i)[1:]
	if len(places) != len(kinds) {
		return nil, api.ErrForm, p.nodes[i].At
	}
	var l []value
	for j, at := range places {
		v, e := read(p.nodes[at], kinds[j])
		if e != api.OK {
			return nil, e, p.nodes[at].At
		}
		l = append(l, v)
	}
	return l, api.OK, 0
}

func (p *parser) parseDelay(i int) (api.Errno, int) {
	if first(p.nodes, i) != "delay" {
		return api.ErrForm, p.nodes[i].At
	}
	v, e, at := p.values(i, number{})
	if e == api.OK {
		p.delay = v[0].number
	}
	return e, at
}

func (p *parser) parseConf(i int) (api.Errno, int) {
	c, e, at := Conf(p.nodes, i)
	p.conf = c
	return e, at
}

// other parses a tree after the delay and the configuration.
func (p *parser) other(i int) (api.Errno, int) {
	switch name := first(p.nodes, i); {
	case name == "group" && p.section == inGroups:
		return p.parseGroup(i)
	case name == "budget" && p.section <= inBudgets:
		p.section = inBudgets
		return p.parseBudget(i)
	default:
		p.section = inSteps
		return p.parseStep(i, name)
	}
}

func (p *parser) parseGroup(i int) (api.Errno, int) {
	g, e, at := spec.Group(p.nodes, i)
	p.groups = append(p.groups, g)
	return e, at
}

func (p *parser) parseBudget(i int) (api.Errno, int) {
	v, e, at := p.values(i, word{}, number{}, word{}, atom{})
	if e == api.OK {
		match := []api.Label{{Key: v[2].text, Val: v[3].text}}
		p.budgets = append(p.budgets, api.Budget{Name: v[0].text, Least: v[1].number, Match: match})
	}
	return e, at
}

func (p *parser) add(do func(r *run)) {
	p.steps = append(p.steps, step{do})
}

// parseStep parses the step at i, whose first child is the Word name, if it is a List.
func (p *parser) parseStep(i int, name string) (api.Errno, int) {
	n := p.nodes[i]
	if n.Kind == api.Word && n.Text == "show" {
		p.add((*run).show)
		return api.OK, 0
	}
	if name == "pod" {
		pod, e, at := spec.Pod(p.nodes, i)
		p.add(func(r *run) { r.report(r.world.AddPod(pod)) })
		return e, at
	}
	if name == "tick" {
		return p.parseTick(i)
	}
	for _, c := range calls() {
		if c.name == name {
			v, e, at := p.values(i, word{})
			p.add(func(r *run) { r.report(c.do(r.world, v[0].text)) })
			return e, at
		}
	}
	return api.ErrForm, n.At
}

func (p *parser) parseTick(i int) (api.Errno, int) {
	v, e, at := p.values(i, number{})
	if e != api.OK {
		return e, at
	}
	if v[0].number < 1 || v[0].number > maxTicks {
		return api.ErrForm, p.nodes[i].At
	}
	p.add(func(r *run) {
		for range v[0].number {
			r.tick()
		}
	})
	return api.OK, 0
}

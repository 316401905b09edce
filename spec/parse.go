package spec

import (
	"trireme/api"
	"trireme/quant"
	"trireme/tree"
)

// kind is the kind of a value of a field.
type kind int

const (
	word kind = iota
	atom
	milli
	amount
	number
	operator
	effect
)

// effects are the Words of the effects, at their numbers; 0 is any effect.
var effects = [4]string{"any", "no", "prefer", "out"}

// operators are the Words of the operators, at their numbers.
var operators = [7]string{"", "in", "notin", "exists", "missing", "above", "below"}

// field is a field of the form of a T.
type field[T any] struct {
	name   string
	values []kind // none: the field is a Word
	more   bool   // whether any number of atoms may follow the values
	repeat bool   // whether the field may be repeated
	set    func(x *T, v []any)
}

// head returns the name and the fields' indices of the form at i, whose first child is to be the Word first.
func head(l []api.Node, i int, first string, name kind) (string, []int, api.Errno, int) {
	if tree.End(l, i) < 0 {
		return "", nil, api.ErrForm, 0
	}
	kids := tree.Kids(l, i)
	if l[i].Kind != api.List || len(kids) < 2 {
		return "", nil, api.ErrForm, l[i].At
	}
	_, wrong := read(l[kids[1]], name)
	if l[kids[0]].Kind != api.Word || l[kids[0]].Text != first || wrong != api.OK {
		return "", nil, api.ErrForm, l[i].At
	}
	return l[kids[1]].Text, kids[2:], api.OK, 0
}

// fill sets the fields at the given indices in x.
func fill[T any](l []api.Node, places []int, fields []field[T], x *T) (api.Errno, int) {
	seen := map[string]int{}
	for _, i := range places {
		f, ok := find(fields, fieldName(l, i))
		seen[f.name]++
		if !ok || (len(f.values) == 0) != (l[i].Kind == api.Word) || seen[f.name] > 1 && !f.repeat {
			return api.ErrField, l[i].At
		}
		values, e, at := f.read(l, i)
		if e != api.OK {
			return e, at
		}
		f.set(x, values)
	}
	return api.OK, 0
}

// fieldName returns the name of the field at i, or the empty string if it has none.
func fieldName(l []api.Node, i int) string {
	if l[i].Kind == api.List && l[i].Kids > 0 {
		i++
	}
	if l[i].Kind != api.Word {
		return ""
	}
	return l[i].Text
}

func find[T any](fields []field[T], name string) (field[T], bool) {
	for _, f := range fields {
		if f.name == name {
			return f, true
		}
	}
	return field[T]{}, false
}

// read returns the values of the field at i.
func (f field[T]) read(l []api.Node, i int) ([]any, api.Errno, int) {
	if len(f.values) == 0 {
		return nil, api.OK, 0
	}
	places := tree.Kids(l, i)[1:]
	if len(places) < len(f.values) || len(places) > len(f.values) && !f.more {
		return nil, api.ErrForm, l[i].At
	}
	var values []any
	for j, place := range places {
		k := atom
		if j < len(f.values) {
			k = f.values[j]
		}
		v, e := read(l[place], k)
		if e != api.OK {
			return nil, e, l[place].At
		}
		values = append(values, v)
	}
	return values, api.OK, 0
}

// read returns the value of a node: a string for words and atoms, and a number for all else.
func read(n api.Node, k kind) (any, api.Errno) {
	if k == atom && n.Kind == api.Text && n.Text == "" {
		return "", api.OK
	}
	if n.Kind != api.Word {
		return nil, api.ErrKind
	}
	var v int
	var e api.Errno
	switch k {
	case word, atom:
		return n.Text, api.OK
	case milli:
		v, e = quant.Milli(n.Text)
	case amount:
		v, e = quant.Parse(n.Text)
	case number:
		v, e = quant.Number(n.Text)
	case operator:
		v, e = operatorOf(n.Text)
	case effect:
		v, e = effectOf(n.Text)
	}
	return v, e
}

func operatorOf(s string) (int, api.Errno) {
	for i, x := range operators {
		if x == s && x != "" {
			return i, api.OK
		}
	}
	return 0, api.ErrKind
}

func effectOf(s string) (int, api.Errno) {
	for i, x := range effects {
		if x == s {
			return i, api.OK
		}
	}
	return 0, api.ErrKind
}

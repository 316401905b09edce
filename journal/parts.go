package journal

import (
	"strconv"

	"trireme/api"
	"trireme/quant"
)

// part is a part of an entry that is a value of its form.
type part int

const (
	namePart part = iota
	numberPart
	keyPart
	valPart
	effectPart
)

// effectWord returns the Word of an effect.
func effectWord(effect int) string {
	switch effect {
	case api.NoSchedule:
		return "no"
	case api.Prefer:
		return "prefer"
	}
	return "out"
}

// effectOf returns the effect of a Word.
func effectOf(s string) (int, api.Errno) {
	switch s {
	case "no":
		return api.NoSchedule, api.OK
	case "prefer":
		return api.Prefer, api.OK
	case "out":
		return api.NoExecute, api.OK
	}
	return 0, api.ErrKind
}

// text returns the part of a valid entry as a value of its form.
func (p part) text(e Entry) string {
	switch p {
	case namePart:
		return e.Name
	case numberPart:
		return strconv.Itoa(e.N)
	case keyPart:
		return e.Taint.Key
	case effectPart:
		return effectWord(e.Taint.Effect)
	}
	if e.Taint.Val == "" {
		return `""`
	}
	return e.Taint.Val
}

// read returns the value of a node: a number for numbers and effects, and a string for all else.
func (p part) read(n api.Node) (any, api.Errno) {
	if p == valPart && n.Kind == api.Text && n.Text == "" {
		return "", api.OK
	}
	if n.Kind != api.Word {
		return nil, api.ErrKind
	}
	switch p {
	case numberPart:
		v, e := quant.Number(n.Text)
		return v, e
	case effectPart:
		v, e := effectOf(n.Text)
		return v, e
	}
	return n.Text, api.OK
}

// set sets the part of the entry to a value, or to zero if the value is nil.
func (p part) set(e *Entry, v any) {
	s, _ := v.(string)
	n, _ := v.(int)
	switch p {
	case namePart:
		e.Name = s
	case numberPart:
		e.N = n
	case keyPart:
		e.Taint.Key = s
	case valPart:
		e.Taint.Val = s
	case effectPart:
		e.Taint.Effect = n
	}
}

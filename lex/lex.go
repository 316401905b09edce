// Package lex splits source text into tokens: brackets, words and quoted strings.
package lex

import (
	"strings"

	"trireme/api"
)

// mode is the kind of text in which the scanner stands.
type mode int

const (
	between mode = iota
	inWord
	inText
	inEscape
	inComment
)

// scanner collects the tokens of a source text, rune by rune.
type scanner struct {
	source    string
	tokens    []api.Token
	mode      mode
	token     api.Token // the token that has begun
	content   []byte    // of the Text token that has begun
	runes     int       // of the Word that has begun
	line, col int       // of the next rune
}

// Scan returns the tokens of s, or an error and its byte offset.
func Scan(s string) ([]api.Token, api.Errno, int) {
	if len(s) > api.MaxText {
		return nil, api.ErrBig, api.MaxText
	}
	sc := scanner{source: s, line: 1, col: 1}
	for i, r := range s {
		if e, at := sc.step(i, r); e != api.OK {
			return nil, e, at
		}
		sc.advance(r)
	}
	if e, at := sc.finish(); e != api.OK {
		return nil, e, at
	}
	return sc.tokens, api.OK, 0
}

// step takes the rune r at the byte offset i.
func (sc *scanner) step(i int, r rune) (api.Errno, int) {
	// A wrong escape is an error at its backslash, even if what follows is an error of its own.
	if sc.mode == inEscape {
		return sc.escape(i, r)
	}
	if !valid(sc.source[i:], r) {
		return api.ErrChar, i
	}
	switch sc.mode {
	case inComment:
		if r == '\n' {
			sc.mode = between
		}
		return api.OK, 0
	case inText:
		return sc.inside(i, r)
	case inWord:
		if inWords(r) {
			return sc.grow()
		}
		sc.endWord(i)
	}
	return sc.begin(i, r)
}

// begin takes a rune that belongs to no token that has begun.
func (sc *scanner) begin(i int, r rune) (api.Errno, int) {
	sc.token = api.Token{At: i, Line: sc.line, Col: sc.col}
	switch {
	case r == '(':
		sc.add(api.Open, "(")
	case r == ')':
		sc.add(api.Close, ")")
	case r == '"':
		sc.mode, sc.content = inText, nil
	case r == ';':
		sc.mode = inComment
	case inWords(r):
		sc.mode, sc.runes = inWord, 0
		return sc.grow()
	case !blank(r):
		return api.ErrChar, i
	}
	return api.OK, 0
}

// inside takes a rune of a Text token.
func (sc *scanner) inside(i int, r rune) (api.Errno, int) {
	switch {
	case r == '"':
		sc.add(api.Text, string(sc.content))
	case r == '\\':
		sc.mode = inEscape
	case r < ' ' && r != '\t' && r != '\n', r == 127:
		return api.ErrChar, i
	default:
		sc.content = append(sc.content, string(r)...)
	}
	return api.OK, 0
}

// escape takes the rune after a backslash.
func (sc *scanner) escape(i int, r rune) (api.Errno, int) {
	switch r {
	case 'n':
		sc.content = append(sc.content, '\n')
	case '"', '\\':
		sc.content = append(sc.content, byte(r))
	default:
		return api.ErrChar, i - 1
	}
	sc.mode = inText
	return api.OK, 0
}

// grow counts one more rune of the Word that has begun.
func (sc *scanner) grow() (api.Errno, int) {
	sc.runes++
	if sc.runes > api.MaxAtom {
		return api.ErrLong, sc.token.At
	}
	return api.OK, 0
}

func (sc *scanner) endWord(end int) {
	sc.add(api.Word, sc.source[sc.token.At:end])
}

// add ends the token that has begun.
func (sc *scanner) add(kind int, text string) {
	sc.token.Kind, sc.token.Text = kind, text
	sc.tokens = append(sc.tokens, sc.token)
	sc.mode = between
}

// advance moves the line and column past r.
func (sc *scanner) advance(r rune) {
	sc.col++
	if r == '\n' {
		sc.line++
		sc.col = 1
	}
}

// finish ends what the end of the source ends.
func (sc *scanner) finish() (api.Errno, int) {
	switch sc.mode {
	case inWord:
		sc.endWord(len(sc.source))
	case inText:
		return api.ErrQuote, sc.token.At
	case inEscape:
		return api.ErrChar, len(sc.source) - 1
	}
	return api.OK, 0
}

// valid reports whether s begins with a valid rune, where r is what a range over s yields first.
func valid(s string, r rune) bool {
	// A range yields U+FFFD for an invalid byte as well as for this rune itself.
	return r != '\uFFFD' || strings.HasPrefix(s, "\uFFFD")
}

func blank(r rune) bool {
	return r == ' ' || r == '\t' || r == '\n' || r == '\r'
}

// inWords reports whether words may contain r.
func inWords(r rune) bool {
	return r > ' ' && r != 127 && r != '(' && r != ')' && r != '"' && r != ';'
}

// Show returns the tokens as source text.
func Show(l []api.Token) string {
	var b strings.Builder
	for i, t := range l {
		if i > 0 && l[i-1].Kind != api.Open && t.Kind != api.Close {
			b.WriteByte(' ')
		}
		b.WriteString(show(t))
	}
	return b.String()
}

func show(t api.Token) string {
	switch t.Kind {
	case api.Open:
		return "("
	case api.Close:
		return ")"
	case api.Text:
		return Quote(t.Text)
	}
	return t.Text
}

// Quote returns s as a quoted string.
func Quote(s string) string {
	var b strings.Builder
	b.WriteByte('"')
	// Bytes, not runes: what is not valid UTF-8 is to be copied as it is.
	for i := range len(s) {
		switch c := s[i]; c {
		case '\n':
			b.WriteString(`\n`)
		case '"', '\\':
			b.WriteByte('\\')
			b.WriteByte(c)
		default:
			b.WriteByte(c)
		}
	}
	b.WriteByte('"')
	return b.String()
}

// Word reports whether s is exactly one word of at most MaxAtom runes.
func Word(s string) bool {
	n := 0
	for i, r := range s {
		n++
		if n > api.MaxAtom || !inWords(r) || !valid(s[i:], r) {
			return false
		}
	}
	return n > 0
}

// Runes returns the number of runes of s, or -1 if s is not valid UTF-8.
func Runes(s string) int {
	n := 0
	for i, r := range s {
		if !valid(s[i:], r) {
			return -1
		}
		n++
	}
	return n
}

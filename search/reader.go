package search

import (
	"strconv"

	"cubby/lex"
	"cubby/seqset"
)

// The kinds of tokens, as layer 15 tells them.
const (
	anAtom = 1 + iota
	aText
	anOpening
	aClosing
)

const maxDigits = 9

// A reader takes the tokens one by one. Once one of them isn't as it is asked for, it is bad, and stays so: whoever asks it
// needs to ask whether all went well but once, at the end.
type reader struct {
	rest []lex.Token
	bad  bool
}

// read answers what the tokens ask of a message, and whether they are keys. Only if they are, it may be asked.
func read(tokens []lex.Token) (key, bool) {
	r := reader{rest: tokens}
	all := r.keys(1)
	return all, !r.bad && len(r.rest) == 0
}

// comes tells whether the next token is of the kind.
func (r *reader) comes(kind int) bool {
	return !r.bad && len(r.rest) > 0 && r.rest[0].Kind == kind
}

// take answers the text of the next token, that has to be of the kind; "" if it isn't.
func (r *reader) take(kind int) string {
	if !r.comes(kind) {
		r.bad = true
		return ""
	}
	s := r.rest[0].Text
	r.rest = r.rest[1:]
	return s
}

// must makes the reader bad where something isn't so.
func (r *reader) must(ok bool) {
	if !ok {
		r.bad = true
	}
}

// word answers the next word, in small letters.
func (r *reader) word() []byte {
	if r.comes(aText) {
		return small(r.take(aText))
	}
	return small(r.take(anAtom))
}

// number answers the next number.
func (r *reader) number() int {
	s := r.take(anAtom)
	n, e := strconv.Atoi(s)
	// Not all that can be read is one: a sign may stand ahead there.
	r.must(e == nil && isNumber(s))
	return n
}

func isNumber(s string) bool {
	for _, c := range []byte(s) {
		if c < '0' || c > '9' {
			return false
		}
	}
	return len(s) >= 1 && len(s) <= maxDigits
}

// set answers the set that s is.
func (r *reader) set(s string) []seqset.Span {
	set, ok := seqset.Parse(s)
	r.must(ok)
	return set
}

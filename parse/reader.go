package parse

import (
	"slices"
	"strings"

	"cubby/api"
	"cubby/date"
	"cubby/flag"
	"cubby/lex"
	"cubby/name"
	"cubby/seqset"
)

// The kinds of tokens, as layer 15 tells them.
const (
	anAtom = 1 + iota
	aText
	anOpening
	aClosing
)

// A reader takes a command's tokens one by one. Once one of them isn't as it is asked for, it is bad, and stays so: whoever
// asks it needs to ask whether all went well but once, at the end.
type reader struct {
	rest []lex.Token
	bad  bool
}

// done tells whether all was as it was asked for, and nothing is left.
func (r *reader) done() bool { return !r.bad && len(r.rest) == 0 }

// comes tells whether the next token is of the kind.
func (r *reader) comes(kind int) bool {
	return !r.bad && len(r.rest) > 0 && r.rest[0].Kind == kind
}

// take answers the text of the next token, that has to be of the kind; "" if it isn't.
func (r *reader) take(kind int) string {
	if !r.comes(kind) {
		r.bad = true
		return ""
	}
	s := r.rest[0].Text
	r.rest = r.rest[1:]
	return s
}

// must makes the reader bad where something isn't so.
func (r *reader) must(ok bool) {
	if !ok {
		r.bad = true
	}
}

func (r *reader) tag() string {
	s := r.take(anAtom)
	r.must(isTag([]byte(s)))
	return s
}

// great answers the next atom in great letters: for those that may be written in any.
func (r *reader) great() string { return strings.ToUpper(r.take(anAtom)) }

func (r *reader) word() string {
	if r.comes(aText) {
		return r.take(aText)
	}
	return r.take(anAtom)
}

func (r *reader) box() string {
	box, ok := name.Norm(r.word())
	r.must(ok)
	return box
}

func (r *reader) pattern() string {
	s := r.word()
	r.must(len(s) <= api.MaxName)
	return s
}

func (r *reader) date() int64 {
	t, ok := date.Parse(r.take(aText))
	r.must(ok)
	return t
}

func (r *reader) flags() int {
	var names []string
	r.take(anOpening)
	for r.comes(anAtom) {
		names = append(names, r.take(anAtom))
	}
	r.take(aClosing)
	flags, ok := flag.Parse(names)
	r.must(ok)
	return flags
}

func (r *reader) set() []seqset.Span {
	set, ok := seqset.Parse(r.take(anAtom))
	r.must(ok)
	return set
}

// keys answers all tokens that are left, of which there has to be one.
func (r *reader) keys() []lex.Token {
	r.must(len(r.rest) > 0)
	keys := slices.Clone(r.rest)
	r.rest = nil
	return keys
}

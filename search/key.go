package search

import (
	"bytes"
	"slices"
	"strings"

	"cubby/api"
	"cubby/seqset"
)

const maxDepth = 10

// key tells whether a message is as it asks.
type key func(m *message) bool

// flagKeys holds the keys that ask for a flag.
var flagKeys = [...]struct {
	name string
	flag int
}{{"SEEN", api.Seen}, {"ANSWERED", api.Answered}, {"FLAGGED", api.Flagged}, {"DELETED", api.Deleted}, {"DRAFT", api.Draft}}

// keys answers the keys that come, up to a ) or the end, as one that asks for all of them.
func (r *reader) keys(depth int) key {
	all := []key{r.key(depth)}
	for !r.bad && len(r.rest) > 0 && !r.comes(aClosing) {
		all = append(all, r.key(depth))
	}
	return func(m *message) bool {
		return !slices.ContainsFunc(all, func(k key) bool { return !k(m) })
	}
}

// key answers the key that comes. What is too deep is bad, and of that nothing comes: so it goes no deeper.
func (r *reader) key(depth int) key {
	r.must(depth <= maxDepth)
	if !r.comes(anOpening) {
		return r.named(great(r.take(anAtom)), depth)
	}
	r.take(anOpening)
	inner := r.keys(depth + 1)
	r.take(aClosing)
	return inner
}

// named answers the key of the name, which is taken already, with what stands behind it.
func (r *reader) named(name string, depth int) key {
	switch name {
	case "ALL":
		return func(*message) bool { return true }
	case "NOT":
		k := r.key(depth + 1)
		return func(m *message) bool { return !k(m) }
	case "OR":
		one, other := r.key(depth+1), r.key(depth+1)
		return func(m *message) bool { return one(m) || other(m) }
	case "SUBJECT", "FROM", "TO":
		word := r.word()
		return func(m *message) bool { return m.field(name).has(word) }
	case "BODY":
		word := r.word()
		return func(m *message) bool { return bytes.Contains(m.text(), word) }
	case "TEXT":
		word := r.word()
		return func(m *message) bool { return bytes.Contains(m.octets(), word) }
	case "LARGER":
		n := r.number()
		return func(m *message) bool { return len(m.Octets) > n }
	case "SMALLER":
		n := r.number()
		return func(m *message) bool { return len(m.Octets) < n }
	case "UID":
		set := r.set(r.take(anAtom))
		return func(m *message) bool { return seqset.Has(set, m.UID, m.last.uid) }
	}
	return r.flagOrSet(name)
}

// flagOrSet answers the key that is an atom by itself.
func (r *reader) flagOrSet(name string) key {
	flagName, without := strings.CutPrefix(name, "UN")
	for _, k := range flagKeys {
		if k.name == flagName {
			return func(m *message) bool { return (m.Flags&k.flag == 0) == without }
		}
	}
	set := r.set(name)
	return func(m *message) bool { return seqset.Has(set, m.number, m.last.number) }
}

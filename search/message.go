package search

import (
	"bytes"

	"cubby/api"
	"cubby/head"
)

// ends are what a * stands for.
type ends struct{ number, uid uint32 }

// message is one that keys are asked about. What they look for words in is made in small letters when the first one asks for
// it, and but once, as many may ask.
type message struct {
	api.Msg
	number   uint32
	last     ends
	smallAll []byte
	smallEnd []byte
	fields   map[string]value
}

// value is a field's, in small letters, if it is there.
type value struct {
	small []byte
	is    bool
}

// octets answers the octets, in small letters.
func (m *message) octets() []byte {
	if m.smallAll == nil {
		m.smallAll = small(m.Octets)
	}
	return m.smallAll
}

// text answers the text, in small letters.
func (m *message) text() []byte {
	if m.smallEnd == nil {
		_, text := head.Cut(m.Octets)
		m.smallEnd = small(text)
	}
	return m.smallEnd
}

// field answers the value of the first field of the name.
func (m *message) field(name string) value {
	if v, asked := m.fields[name]; asked {
		return v
	}
	s, is := head.Field(m.Octets, name)
	v := value{small(s), is}
	if m.fields == nil {
		m.fields = map[string]value{}
	}
	m.fields[name] = v
	return v
}

// has tells whether the field is there, and has the word in it: so an empty word asks for the field alone.
func (v value) has(word []byte) bool {
	return v.is && bytes.Contains(v.small, word)
}

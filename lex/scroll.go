package lex

import "bytes"

// scroll is bytes that grow at their end.
type scroll struct {
	sheet *sheet
	size  int
}

// sheet is what a scroll, and those that are copies of it, have written on: each knows by its size how many of the bytes are
// its own. None of them is ever written over, so that a Chunk that is copied goes its own way.
type sheet struct {
	bytes []byte
}

// all answers the bytes. They are the scroll's own memory, not to be handed out.
func (s *scroll) all() []byte {
	if s.sheet == nil {
		return nil
	}
	return s.sheet.bytes[:s.size]
}

// put writes at the end of the sheet. Where another one has written there already, it takes a sheet of its own.
func (s *scroll) put(b []byte) {
	if s.sheet == nil || len(s.sheet.bytes) != s.size {
		s.sheet = &sheet{bytes.Clone(s.all())}
	}
	s.sheet.bytes = append(s.sheet.bytes, b...)
	s.size = len(s.sheet.bytes)
}

package lex

import (
	"bytes"

	"cubby/api"
)

// The kinds of units.
const (
	aCommand = 1 + iota
	ofLongLine
	ofLongLiteral
	literalAsked
)

// maxTold is how many bytes are told of a command that is refused.
const maxTold = 100

// Unit is what some bytes complete: a command, one that is refused, or that a literal is asked for.
type Unit struct {
	Kind int
	B    []byte
}

// Chunk takes bytes in whatever pieces they come. Its zero value is one to which nothing came yet.
type Chunk struct {
	// came is what came of the command; of one whose line is too long, what will be told of it.
	came scroll
	// line is how many bytes of came are of its last line, be they of its end or not.
	line int
	// returned is whether the last one of these is a carriage return.
	returned bool
	// left is how many bytes of a literal are still to come.
	left int
}

// Feed takes b, and answers what it completes.
func (c *Chunk) Feed(b []byte) []Unit {
	if c == nil {
		return nil
	}
	var units []Unit
	for len(b) > 0 {
		if c.left > 0 {
			b = c.takeLiteral(b)
			continue
		}
		var piece []byte
		piece, b = cutPiece(b)
		if c.takePiece(piece) {
			units = append(units, c.endLine())
		}
	}
	return units
}

// Waits tells whether bytes of a literal are still to come.
func (c *Chunk) Waits() bool { return c != nil && c.left > 0 }

// takeLiteral takes what b has of a literal, and answers what stands behind it. A carriage return in it isn't of a line, so
// that none ends with it.
func (c *Chunk) takeLiteral(b []byte) []byte {
	n := min(c.left, len(b))
	c.came.put(b[:n])
	c.left -= n
	return b[n:]
}

// cutPiece answers b up to its first line feed, as a line can end there alone, and what stands behind it.
func cutPiece(b []byte) ([]byte, []byte) {
	n := bytes.IndexByte(b, '\n') + 1
	if n == 0 {
		n = len(b)
	}
	return b[:n], b[n:]
}

// takePiece takes some bytes of a line, of which the last one alone may be a line feed, and tells whether the line ends
// with it.
func (c *Chunk) takePiece(p []byte) bool {
	ahead, last := p[:len(p)-1], p[len(p)-1]
	if len(ahead) > 0 {
		c.returned = ahead[len(ahead)-1] == '\r'
	}
	ends := c.returned && last == '\n'
	c.returned = last == '\r'
	c.keep(p)
	return ends
}

// keep keeps some bytes of a line, as long as they are needed: a line may be of any length, though it will be refused.
func (c *Chunk) keep(p []byte) {
	if c.isTooLong() {
		return
	}
	c.line += len(p)
	if !c.isTooLong() {
		c.came.put(p)
		return
	}
	var told scroll
	told.put(first(c.came.all(), maxTold))
	told.put(first(p, maxTold-told.size))
	c.came = told
}

// isTooLong tells whether the line that came is too long, wherever it ends. It counts as if the line had ended: of one that
// goes on the last bytes may be of its end or not.
func (c *Chunk) isTooLong() bool { return c.line > api.MaxLine+len(lineEnd) }

// endLine answers what is complete, as a line has ended.
func (c *Chunk) endLine() Unit {
	if c.isTooLong() {
		return c.end(ofLongLine, c.came.all())
	}
	all := c.came.all()
	line := all[len(all)-c.line:]
	line = line[:len(line)-len(lineEnd)]
	all = all[:len(all)-len(lineEnd)]
	length, is := lastLiteral(line)
	switch {
	case !is:
		return c.end(aCommand, all)
	case length > api.MaxOctets:
		return c.end(ofLongLiteral, first(all, maxTold))
	}
	c.line, c.left = 0, length
	return Unit{Kind: literalAsked}
}

// end answers a unit, behind which something new begins.
func (c *Chunk) end(kind int, b []byte) Unit {
	*c = Chunk{}
	return Unit{Kind: kind, B: bytes.Clone(b)}
}

// lastLiteral answers how many bytes the literal has with which the line ends, if it does.
func lastLiteral(line []byte) (int, bool) {
	at := bytes.LastIndexByte(line, '{')
	if at < 0 {
		return 0, false
	}
	return literalLength(line[at+1:])
}

// first answers b, or its first n bytes, if it has more.
func first(b []byte, n int) []byte { return b[:min(n, len(b))] }

package parse

import "strings"

// How flags are changed, as layer 8 tells it.
const (
	putInPlace = iota
	putBeside
	takeAway
)

// command answers the command that the tokens are, if the reader is done behind it.
func (r *reader) command() Command {
	c := Command{Tag: r.tag(), Name: r.great()}
	if c.Name == "UID" {
		c.UID, c.Name = true, r.great()
		r.takeRestOfUID(&c)
		return c
	}
	r.takeRest(&c)
	return c
}

// takeRestOfUID takes what a command that goes by UIDs has behind its name.
func (r *reader) takeRestOfUID(c *Command) {
	switch c.Name {
	case "FETCH", "STORE", "COPY", "SEARCH":
		r.takeRest(c)
	case "EXPUNGE":
		c.Set = r.set()
	default:
		r.bad = true
	}
}

// takeRest takes what a command has behind its name.
func (r *reader) takeRest(c *Command) {
	switch c.Name {
	case "CAPABILITY", "NOOP", "LOGOUT", "CHECK", "CLOSE", "EXPUNGE", "IDLE":
	case "LOGIN":
		c.User = r.word()
		c.Pass = r.word()
	case "SELECT", "EXAMINE", "CREATE", "STATUS":
		c.Box = r.box()
	case "LIST":
		c.Ref = r.word()
		c.Pattern = r.pattern()
	case "APPEND":
		r.takeMessage(c)
	case "FETCH":
		c.Set = r.set()
		c.Items = r.items()
	case "STORE":
		c.Set = r.set()
		c.How, c.Silent = r.how()
		c.Flags = r.flags()
	case "COPY":
		c.Set = r.set()
		c.Box = r.box()
	case "SEARCH":
		c.Keys = r.keys()
	default:
		r.bad = true
	}
}

// takeMessage takes what an APPEND has.
func (r *reader) takeMessage(c *Command) {
	c.Box = r.box()
	if r.comes(anOpening) {
		c.Flags = r.flags()
	}
	// Both a time and the octets are texts, and the octets have to be there: a time is if another text stands behind.
	if len(r.rest) > 1 {
		c.HasDate = true
		c.Date = r.date()
	}
	c.Octets = []byte(r.take(aText))
}

// how answers how a STORE changes flags, and whether nothing is to be told of it.
func (r *reader) how() (int, bool) {
	s, silent := strings.CutSuffix(r.great(), ".SILENT")
	switch s {
	case "FLAGS":
		return putInPlace, silent
	case "+FLAGS":
		return putBeside, silent
	case "-FLAGS":
		return takeAway, silent
	}
	r.bad = true
	return 0, false
}

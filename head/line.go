package head

import (
	"bytes"
	"iter"
)

// lines goes through the lines of b's head, without their ends. The empty one that ends it is none of them.
func lines(b []byte) iter.Seq[[]byte] {
	return func(each func([]byte) bool) {
		for rest := b; len(rest) > 0; {
			var l []byte
			l, rest = cutLine(rest)
			if len(l) == 0 || !each(l) {
				return
			}
		}
	}
}

// cutLine answers b's first line, without its end, and what stands behind it. A carriage return at the very end of b is an
// end of a line too, so that it goes, be there a line feed or not.
func cutLine(b []byte) ([]byte, []byte) {
	l, rest, _ := bytes.Cut(b, []byte{'\n'})
	return bytes.TrimSuffix(l, []byte{'\r'}), rest
}

// goesOn tells whether a line goes on with a field ahead of it.
func goesOn(line []byte) bool {
	return line[0] == ' ' || line[0] == '\t'
}

// A field is what one line tells of it: more of its value may stand in the lines behind.
type field struct{ name, begin []byte }

// parseField answers the field that begins with the line. A line that goes on with another is none: a blank or a tab is of
// no name.
func parseField(line []byte) (field, bool) {
	name, begin, ok := bytes.Cut(line, []byte{':'})
	if !ok || !isName(name) {
		return field{}, false
	}
	return field{name, begin}, true
}

func isName(b []byte) bool {
	for _, c := range b {
		if c < '!' || c > '~' {
			return false
		}
	}
	return len(b) > 0
}

// isSame tells whether both names are one, in any letters: A to Z alone, so that no other letters become them.
func isSame(a []byte, b string) bool {
	if len(a) != len(b) {
		return false
	}
	for i, c := range a {
		if low(c) != low(b[i]) {
			return false
		}
	}
	return true
}

func low(c byte) byte {
	if c >= 'A' && c <= 'Z' {
		return c + ('a' - 'A')
	}
	return c
}

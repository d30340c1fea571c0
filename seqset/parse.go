package seqset

import (
	"math"
	"strings"
)

const maxParts = 100

// Parse answers the parts of the set that s is, and whether it is one. It takes one part at a time, so that a text of very
// many is refused at the first one that is too many.
func Parse(s string) ([]Span, bool) {
	var l []Span
	for more := true; more; {
		var part string
		part, s, more = strings.Cut(s, ",")
		x, ok := parsePart(part)
		if !ok || len(l) == maxParts {
			return nil, false
		}
		l = append(l, x)
	}
	return l, true
}

func parsePart(s string) (Span, bool) {
	first, second, two := strings.Cut(s, ":")
	if !two {
		second = first
	}
	from, ok := parseNumber(first)
	to, okToo := parseNumber(second)
	return Span{From: from, To: to}, ok && okToo
}

func parseNumber(s string) (uint32, bool) {
	if s == "*" {
		return greatestOne, true
	}
	// What has a nought ahead is refused, and so is 0 itself.
	if s == "" || s[0] == '0' {
		return 0, false
	}
	n := uint64(0)
	for i := range len(s) {
		if s[i] < '0' || s[i] > '9' {
			return 0, false
		}
		n = 10*n + uint64(s[i]-'0')
		// Asked at each digit, as a long text goes beyond 64 bits, too.
		if n > math.MaxUint32 {
			return 0, false
		}
	}
	return uint32(n), true
}

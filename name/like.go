package name

import "strings"

const (
	anyBytes = '*'
	anyPart  = '%'
)

// Like tells whether s is as pattern says.
func Like(pattern, s string) bool {
	// All places that the pattern may have come to are followed together: trying the
	// ways through it one behind the other takes time beyond all bounds.
	places := []int{0}
	for i := 0; i < len(pattern) && len(places) > 0; i++ {
		switch pattern[i] {
		case anyBytes:
			places = overBytes(places, s)
		case anyPart:
			places = overPart(places, s)
		default:
			places = overByte(places, s, pattern[i])
		}
	}
	return len(places) > 0 && places[len(places)-1] == len(s)
}

// overByte answers the rising places behind those at which c stands. It writes over the places it is given.
func overByte(places []int, s string, c byte) []int {
	to := places[:0]
	for _, at := range places {
		if at < len(s) && s[at] == c {
			to = append(to, at+1)
		}
	}
	return to
}

// overBytes answers the rising places from the first one on.
func overBytes(places []int, s string) []int {
	if isFull(places, s) {
		return places
	}
	return run(nil, places[0], len(s))
}

// overPart answers the rising places that are reached from those given without going over a /.
func overPart(places []int, s string) []int {
	if isFull(places, s) {
		return places
	}
	var to []int
	next := 0
	for _, at := range places {
		// One that was reached from another one reaches nothing more than that did.
		if at < next {
			continue
		}
		end := partEnd(s, at)
		to = run(to, at, end)
		next = end + 1
	}
	return to
}

// isFull tells whether the places go on without a gap to the end, so that nothing can come to them.
func isFull(places []int, s string) bool { return len(places) == len(s)-places[0]+1 }

// run puts the places from first to last behind those of to.
func run(to []int, first, last int) []int {
	for at := first; at <= last; at++ {
		to = append(to, at)
	}
	return to
}

// partEnd answers where, from at on, the next / stands, or s ends.
func partEnd(s string, at int) int {
	if n := strings.Index(s[at:], separator); n >= 0 {
		return at + n
	}
	return len(s)
}

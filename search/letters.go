package search

// small answers a copy of s, never nil, in small letters: A to Z alone, so that no other letters become them.
func small[T string | []byte](s T) []byte {
	b := make([]byte, len(s))
	for i := range len(s) {
		b[i] = s[i]
		if b[i] >= 'A' && b[i] <= 'Z' {
			b[i] += 'a' - 'A'
		}
	}
	return b
}

// great answers s in great letters: a to z alone, likewise.
func great(s string) string {
	b := []byte(s)
	for i, c := range b {
		if c >= 'a' && c <= 'z' {
			b[i] = c - ('a' - 'A')
		}
	}
	return string(b)
}

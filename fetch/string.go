package fetch

import "strconv"

// fitsQuotes tells whether all bytes of s are from the blank to ~.
func fitsQuotes(s string) bool {
	for at := range len(s) {
		if s[at] < ' ' || s[at] > '~' {
			return false
		}
	}
	return true
}

// quoted answers s in quotes, with a \ ahead of what would end them, or of what would be such a \.
func quoted(s string) string {
	b := make([]byte, 0, len(s)+len(`""`))
	b = append(b, '"')
	for at := range len(s) {
		if s[at] == '"' || s[at] == '\\' {
			b = append(b, '\\')
		}
		b = append(b, s[at])
	}
	return string(append(b, '"'))
}

// counted answers s behind its number of bytes, by which its reader finds its end, whatever its bytes are.
func counted(s string) string { return "{" + strconv.Itoa(len(s)) + "}\r\n" + s }

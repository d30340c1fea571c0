package fetch_test

import (
	"fmt"
	"strings"
	"testing"

	"cubby/fetch"
	"cubby/lex"
)

// P18.1: String

func TestString(t *testing.T) {
	wantString(t, "hello", `"hello"`)
	wantString(t, "", `""`)
	wantString(t, " ", `" "`)
	wantString(t, "~", `"~"`)
	wantString(t, "Good morning, Ann (and Bob) {3} *%[]", `"Good morning, Ann (and Bob) {3} *%[]"`)
	wantString(t, "NIL", `"NIL"`)
	wantString(t, `"`, `"\""`)
	wantString(t, `\`, `"\\"`)
	wantString(t, `\"`, `"\\\""`)
	wantString(t, `a "b" \c\`, `"a \"b\" \\c\\"`)
	wantString(t, `""""`, `"\"\"\"\""`)
	wantString(t, `\\\\`, `"\\\\\\\\"`)
}

func TestStringThatIsCounted(t *testing.T) {
	wantString(t, "\x1f", "{1}\r\n\x1f")
	wantString(t, "\x7f", "{1}\r\n\x7f")
	wantString(t, "\x80", "{1}\r\n\x80")
	wantString(t, "\xff", "{1}\r\n\xff")
	wantString(t, "\x00", "{1}\r\n\x00")
	wantString(t, "\t", "{1}\r\n\t")
	wantString(t, "\r\n", "{2}\r\n\r\n")
	wantString(t, "ann\nbob", "{7}\r\nann\nbob")
	wantString(t, "é", "{2}\r\né")
	wantString(t, "\u00a0", "{2}\r\n\u00a0")
	wantString(t, "a \"b\" \\\t", "{8}\r\na \"b\" \\\t")
	wantString(t, "{1}\r\nx", "{6}\r\n{1}\r\nx")
}

func TestStringOfEveryByteAtEveryPlace(t *testing.T) {
	for _, s := range []string{"", "x", "ab", `"\ ~`, "a\tb", "hello, Ann"} {
		for at := range len(s) + 1 {
			for c := range 256 {
				with := s[:at] + string([]byte{byte(c)}) + s[at:]
				wantString(t, with, plainString(with))
				in := strings.HasPrefix(fetch.String(with), `"`)
				if want := c >= 0x20 && c <= 0x7e && !strings.Contains(s, "\t"); in != want {
					t.Errorf("%q: in quotes is %v", with, in)
				}
			}
		}
	}
}

func TestStringOfAllPairs(t *testing.T) {
	for c := range 256 * 256 {
		s := string([]byte{byte(c >> 8), byte(c)})
		wantString(t, s, plainString(s))
	}
}

// A count of more digits, where one more comes.
func TestStringOfLengths(t *testing.T) {
	for _, n := range []int{1, 9, 10, 11, 99, 100, 101, 999, 1000, 9999, 10000, 20000, 99999, 100000, 1 << 20} {
		x := strings.Repeat("x", n-1)
		wantString(t, x+"x", `"`+x+`x"`)
		wantString(t, x+`"`, `"`+x+`\""`)
		wantString(t, `\`+x, `"\\`+x+`"`)
		wantString(t, x+"\n", fmt.Sprintf("{%d}\r\n%s\n", n, x))
		wantString(t, "\x7f"+x, fmt.Sprintf("{%d}\r\n\x7f%s", n, x))
		wantString(t, strings.Repeat(`"`, n), `"`+strings.Repeat(`\"`, n)+`"`)
	}
}

// What is told is a text to layer 15, the same one.
func TestStringIsReadBack(t *testing.T) {
	for c := range 256 * 256 {
		s := string([]byte{'a', byte(c >> 8), byte(c), '"', '\\'})
		if c%2 == 0 {
			s = s[1:3]
		}
		l, ok := lex.Tokens([]byte(fetch.String(s)))
		if !ok || len(l) != 1 || l[0] != (lex.Token{Kind: 2, Text: s}) {
			t.Fatalf("%q: %v, %v", s, l, ok)
		}
	}
}

package parse_test

import (
	"math/rand"
	"strings"
	"testing"

	"cubby/parse"
)

// P16.1: Tag

func wantTag(t *testing.T, b, want string) {
	t.Helper()
	if got := plainTag(b); got != want {
		t.Errorf("the plain words say of %.100q: %.100q, not %.100q", b, got, want)
	}
	if got := parse.Tag([]byte(b)); got != want {
		t.Errorf("Tag(%.100q): %.100q, want %.100q", b, got, want)
	}
	// What is no command is told with the same tag, and one that is has none but such.
	if c, _ := parse.Parse([]byte(b)); c.Tag != want {
		t.Errorf("Parse(%.100q) tells the tag %.100q, want %.100q", b, c.Tag, want)
	}
}

func TestTagByHand(t *testing.T) {
	for b, want := range map[string]string{
		"a NOOP":                     "a",
		"a1 NOOP":                    "a1",
		"A1 noop":                    "A1",
		"0 NOOP":                     "0",
		"007 NOOP":                   "007",
		"aZ09zA90 NOOP":              "aZ09zA90",
		"a":                          "a",
		"NOOP":                       "NOOP",
		"a ":                         "a",
		"a  NOOP":                    "a",
		"a bogus":                    "a",
		"a b c d":                    "a",
		"a \"":                       "a",
		"a (":                        "a",
		"a \x00\xff":                 "a",
		"a \r\nb NOOP":               "a",
		"abcdefghijabcdefghij NOOP":  "abcdefghijabcdefghij",
		"12345678901234567890":       "12345678901234567890",
		"12345678901234567890 ":      "12345678901234567890",
		"":                           "*",
		" ":                          "*",
		" a":                         "*",
		" a NOOP":                    "*",
		"  a":                        "*",
		"abcdefghijabcdefghija NOOP": "*",
		"123456789012345678901":      "*",
		"* NOOP":                     "*",
		"*":                          "*",
		"+ NOOP":                     "*",
		"a!b NOOP":                   "*",
		"a. NOOP":                    "*",
		"a-b":                        "*",
		"a_b":                        "*",
		"a\tNOOP":                    "*",
		"a\r":                        "*",
		"a\n":                        "*",
		"a\r\n":                      "*",
		"a\r\n NOOP":                 "*",
		"a\x00":                      "*",
		"\x00":                       "*",
		"\"a\" NOOP":                 "*",
		"\"a b\" NOOP":               "*",
		"(a) NOOP":                   "*",
		"(a NOOP)":                   "*",
		"a(b)":                       "*",
		"{1}\r\na NOOP":              "*",
		"{1} a":                      "*",
		"é NOOP":                     "*",
		"aé":                         "*",
		"\u0661 NOOP":                "*",
		"\uff41":                     "*",
		"\u212a NOOP":                "*",
		"\u017f":                     "*",
		"a\u00a0NOOP":                "*",
		"\xff":                       "*",
	} {
		wantTag(t, b, want)
	}
}

func TestTagOfLengths(t *testing.T) {
	for n := range 70 {
		for _, c := range []string{"a", "Z", "0", "9"} {
			tag, want := strings.Repeat(c, n), strings.Repeat(c, n)
			if n < 1 || n > 20 {
				want = "*"
			}
			wantTag(t, tag, want)
			wantTag(t, tag+" ", want)
			wantTag(t, tag+" NOOP", want)
			wantTag(t, tag+" NOOP "+tag, want)
		}
	}
	for _, n := range []int{256, 257, 276, 65536, 65537, 65556, 1 << 20} {
		wantTag(t, strings.Repeat("a", n), "*")
		wantTag(t, strings.Repeat("a", n)+" NOOP", "*")
		wantTag(t, "a "+strings.Repeat("b", n), "a")
		wantTag(t, strings.Repeat(" ", n), "*")
		wantTag(t, "a"+strings.Repeat(" ", n), "a")
	}
}

// Every byte at every place of a tag.
func TestTagOfBytes(t *testing.T) {
	for _, tag := range []string{"a", "a1", "abcdefghijabcdefghij", "abcdefghijabcdefghi"} {
		for _, behind := range []string{"", " NOOP", " ", " \""} {
			for i := range len(tag) + 1 {
				for c := range 256 {
					b := string([]byte{byte(c)})
					wantTag(t, tag[:i]+b+tag[i:]+behind, plainTag(tag[:i]+b+tag[i:]+behind))
					if i < len(tag) {
						wantTag(t, tag[:i]+b+tag[i+1:]+behind, plainTag(tag[:i]+b+tag[i+1:]+behind))
					}
				}
			}
		}
	}
	letters := 0
	for c := range 256 {
		if parse.Tag([]byte{byte(c)}) != "*" {
			letters++
		}
	}
	if letters != 26+26+10 {
		t.Error("so many bytes are tags:", letters)
	}
}

func TestTagAtRandom(t *testing.T) {
	r := rand.New(rand.NewSource(161))
	tags, others := 0, 0
	for range 50000 {
		b := make([]byte, r.Intn(25))
		for i := range b {
			b[i] = "abcXYZ0189"[r.Intn(10)]
			if r.Intn(30) == 0 {
				b[i] = byte(r.Intn(256))
			}
		}
		want := plainTag(string(b))
		wantTag(t, string(b), want)
		if want == "*" {
			others++
		} else {
			tags++
		}
	}
	if tags < 1000 || others < 1000 {
		t.Error("nearly all were tags, or nearly none:", tags, others)
	}
}

// R3: what is handed in stays as it is, and isn't kept.
func TestTagMemory(t *testing.T) {
	whole := []byte("a1 NOOP, and spare room")
	for n := range len(whole) + 1 {
		parse.Tag(whole[:n])
	}
	first := parse.Tag(whole[:7])
	if string(whole) != "a1 NOOP, and spare room" {
		t.Errorf("what was handed in was changed: %q", whole)
	}
	clear(whole)
	if first != "a1" {
		t.Errorf("a tag shares memory: %q", first)
	}
	if parse.Tag(nil) != "*" || parse.Tag([]byte{}) != "*" {
		t.Error("no bytes have a tag")
	}
}

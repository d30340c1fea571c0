package head_test

import (
	"slices"
	"strconv"
	"strings"
	"testing"

	"cubby/head"
)

func wantField(t *testing.T, b, name, want string) {
	t.Helper()
	if got, ok := head.Field([]byte(b), name); got != want || !ok {
		t.Errorf("Field(%.80q, %.80q): %.80q, %v, want %.80q, true", b, name, got, ok, want)
	}
}

func wantNoField(t *testing.T, b, name string) {
	t.Helper()
	if got, ok := head.Field([]byte(b), name); got != "" || ok {
		t.Errorf("Field(%.80q, %.80q): %.80q, %v, want none, false", b, name, got, ok)
	}
}

func wantFields(t *testing.T, b string, want ...string) {
	t.Helper()
	if got := head.Fields([]byte(b)); !slices.Equal(got, want) {
		t.Errorf("Fields(%.80q): %.80q, want %.80q", b, got, want)
	}
}

const letter = "From: Ann <ann@example.org>\r\n" +
	"To: bob@example.org,\r\n\tcarl@example.org\r\n" +
	"Subject: hello\r\n" +
	"X-Empty:\r\n" +
	"Received: one\r\n" +
	"received: two\r\n" +
	"\r\n" +
	"Later: not of the head\r\n"

// P14.1: Field

func TestField(t *testing.T) {
	wantField(t, letter, "From", "Ann <ann@example.org>")
	wantField(t, letter, "To", "bob@example.org,\tcarl@example.org")
	wantField(t, letter, "Subject", "hello")
	wantField(t, letter, "X-Empty", "")
	wantField(t, letter, "Received", "one")
	wantField(t, "A: b\r\n c\r\n\r\n", "a", "b c")
}

func TestFieldOfNone(t *testing.T) {
	for _, name := range []string{"", "Later", "Fro", "From:", "From ", " From", "Fromm", "rom", ":", "\r\n", "From: Ann <ann@example.org>", "X", "Ann", "carl@example.org", "\tcarl@example.org"} {
		wantNoField(t, letter, name)
	}
	for _, b := range []string{"", "\n", "\r\n", "\r", "a", "a\n", ":", ": b", ":\n", "::", "\n\na: b", "\r\na: b", "x\n\na: b", "b: a\n\na: a"} {
		wantNoField(t, b, "a")
		wantNoField(t, b, "")
	}
}

// The first one, whichever letters it stands in.
func TestFieldIsTheFirstOne(t *testing.T) {
	wantField(t, "a: 1\na: 2\na: 3\n", "a", "1")
	wantField(t, "A: 1\na: 2\n", "a", "1")
	wantField(t, "a: 1\nA: 2\n", "A", "1")
	wantField(t, "b: 0\na: 1\nb: 2\na: 3\n", "a", "1")
	wantField(t, "a:\na: 2\n", "a", "")
	wantField(t, "aa: 0\na: 1\n", "a", "1")
	wantField(t, "a: 1\n\na: 2", "a", "1")
}

func TestFieldInAnyLetters(t *testing.T) {
	for _, name := range []string{"subject", "SUBJECT", "Subject", "sUbJeCt"} {
		for _, own := range []string{"subject", "SUBJECT", "Subject", "SuBjEcT"} {
			wantField(t, own+": hello", name, "hello")
		}
	}
	wantField(t, "ABCDEFGHIJKLMNOPQRSTUVWXYZ: x", "abcdefghijklmnopqrstuvwxyz", "x")
	wantField(t, "abcdefghijklmnopqrstuvwxyz: x", "ABCDEFGHIJKLMNOPQRSTUVWXYZ", "x")
}

// Two bytes are one in a name where they are one letter of A to Z alone.
func TestFieldOfEachTwoBytes(t *testing.T) {
	for own := range 256 {
		for asked := range 256 {
			b, name := "x"+string([]byte{byte(own)})+": v\n", "x"+string([]byte{byte(asked)})
			// With : it is a field x, which isn't asked for.
			can := own > ' ' && own <= '~' && own != ':'
			if can && plainLow(b[:2]) == plainLow(name) {
				wantField(t, b, name, "v")
			} else {
				wantNoField(t, b, name)
			}
		}
	}
	// Letters that Unicode folds into those of A to Z.
	wantNoField(t, "\u212a: v", "k")
	wantNoField(t, "k: v", "\u212a")
	wantNoField(t, "s: v", "\u017f")
	wantNoField(t, "\u00e9: v", "\u00e9")
}

func TestFieldNames(t *testing.T) {
	for _, name := range []string{"!", "~", "!~", "a", "0", "-", "a-b", "a.b", "a(b)", "\"a\"", "a\\b", "a,b", "a;b", "<a>", "a@b", "[a]", "{|}", strings.Repeat("n", 5000)} {
		wantField(t, name+":v", name, "v")
		wantFields(t, name+":v", name)
	}
	for _, name := range []string{"", " ", "a ", " a", "a b", "\t", "a\t", "\ta", "a\x00", "\x1fa", "a\x7f", "a\x80", "\xff", "é", "a\rb", "a\r", "a\v"} {
		for _, b := range []string{name + ":v", name + ": v\r\nb: w\r\n"} {
			wantNoField(t, b, name)
			wantNoField(t, b, strings.TrimSpace(name))
		}
		wantFields(t, name+":v")
	}
}

// The name ends with the first : of its line, and all others are of the value.
func TestFieldAtTheFirstColon(t *testing.T) {
	wantField(t, "a:b:c", "a", "b:c")
	wantNoField(t, "a:b:c", "a:b")
	wantField(t, "a::", "a", ":")
	wantField(t, "a: : b", "a", ": b")
	wantField(t, "a: 12:30:59 +0000\n", "a", "12:30:59 +0000")
	wantField(t, "a: x\n b: y\n", "a", "x b: y")
	wantNoField(t, "a: x\n b: y\n", "b")
	wantNoField(t, "::b", ":")
	wantFields(t, "::b\n:a: b\n")
	wantFields(t, "a b:c: d\n")
}

func TestFieldValues(t *testing.T) {
	for b, want := range map[string]string{
		"a:":                 "",
		"a:\n":               "",
		"a:\r\n":             "",
		"a:\r":               "",
		"a: ":                "",
		"a: \t \t\n":         "",
		"a:b":                "b",
		"a:b\n":              "b",
		"a:b\r\n":            "b",
		"a:b\r":              "b",
		"a: b ":              "b",
		"a:\tb\t\r\n":        "b",
		"a: \t b \t \r\n":    "b",
		"a:b c\td":           "b c\td",
		"a:b  c\n":           "b  c",
		"a:b\rc\n":           "b\rc",
		"a:b\r\r\n":          "b\r",
		"a:b\r\r":            "b\r",
		"a:\r\r\n":           "\r",
		"a:\rb\n":            "\rb",
		"a: \r \r\n":         "\r",
		"a:\x00\n":           "\x00",
		"a:\vb\f\n":          "\vb\f",
		"a:\u00a0b\u3000\n":  "\u00a0b\u3000",
		"a:\xff\xfe\n":       "\xff\xfe",
		"a:\u0085b\u2028c\n": "\u0085b\u2028c",
	} {
		wantField(t, b, "a", want)
		wantField(t, "x: y\n"+b, "A", want)
		if strings.HasSuffix(b, "\n") {
			wantField(t, b+"c: d\n\nx", "a", want)
			wantField(t, b+"\r\nx", "a", want)
		}
	}
}

func TestFieldOfSeveralLines(t *testing.T) {
	for b, want := range map[string]string{
		"a: b\n c":                "b c",
		"a: b\n\tc":               "b\tc",
		"a: b\r\n  c\r\n":         "b  c",
		"a: b \r\n c\r\n":         "b  c",
		"a: b\t\n\t c \n":         "b\t\t c",
		"a:\n b\n":                "b",
		"a:\r\n\r\n b\r\n":        "",
		"a:\n \n\tb\n":            "b",
		"a: b\n \n":               "b",
		"a: b\n \n c\n":           "b  c",
		"a: b\r\n \t\r\n \t c":    "b \t \t c",
		"a: b\n c\n d\n e\n":      "b c d e",
		"a: b\r\n c\n d\r\n e\r":  "b c d e",
		"a: b\n c\nx\n d\n":       "b c",
		"a: b\nx: y\n d\n":        "b",
		"a: b\n:\n d\n":           "b",
		"a: b\na: c\n d\n":        "b",
		"a: b\nodd line\n d\n":    "b",
		"a: b\n\r \n d\n":         "b",
		"a: b\n\x00\n d\n":        "b",
		"a: b\n\vc\n":             "b",
		"a: b\n\u00a0c\n":         "b",
		"a: b\n c\n\n d\n":        "b c",
		"a: b\n \rc\n":            "b \rc",
		"a: b\r\r\n c\r\r\n\r\nx": "b\r c\r",
		" a: z\na: b\n c":         "b c",
		" c\n\td\na: b\n c":       "b c",
		"a b: z\n c\na: b\n c":    "b c",
		"A: b\n a: c\n":           "b a: c",
	} {
		wantField(t, b, "a", want)
	}
}

func TestFieldOfManyLines(t *testing.T) {
	wantField(t, "a:"+strings.Repeat(" b\r\n", 1<<18), "a", strings.TrimSpace(strings.Repeat(" b", 1<<18)))
	wantField(t, strings.Repeat("b: c\r\n", 1<<18)+"a: last", "a", "last")
	wantNoField(t, strings.Repeat("b: c\r\n", 1<<18), "a")
	wantField(t, "a: "+strings.Repeat("x", 1<<20)+"\r\n\r\n", "a", strings.Repeat("x", 1<<20))
	name := strings.Repeat("n", 1<<20)
	wantField(t, name+"m: 1\n"+name+": 2\n", name, "2")
}

// R3: what is handed in stays as it is, spare room too.
func TestFieldMemory(t *testing.T) {
	whole := []byte("Ab: c\r\n d\r\nE: f\r\n\r\ng")
	for n := range len(whole) + 1 {
		head.Field(whole[:n], "ab")
		head.Field(whole[:n], "e")
		head.Fields(whole[:n])
	}
	if string(whole) != "Ab: c\r\n d\r\nE: f\r\n\r\ng" {
		t.Errorf("what was handed in, or spare room of it, was changed: %q", whole)
	}
	value, _ := head.Field(whole, "e")
	names := head.Fields(whole)
	clear(whole)
	if value != "f" || !slices.Equal(names, []string{"Ab", "E"}) {
		t.Errorf("an answer shares memory: %q %q", value, names)
	}
}

// P14.1: Fields

func TestFields(t *testing.T) {
	wantFields(t, letter, "From", "To", "Subject", "X-Empty", "Received", "received")
	wantFields(t, "b: 1\na: 2\nB: 3\nb: 4\n", "b", "a", "B", "b")
	wantFields(t, "A: b\r\n c\r\n\r\n", "A")
}

func TestFieldsOfNone(t *testing.T) {
	for _, b := range []string{"", "\n", "\r", "\r\n", "a", "a\n b: c\n", ":", ":a", " a: b", "\ta: b", "a : b", "a\t: b", "\na: b", "\r\na: b", "x\n\na: b"} {
		wantFields(t, b)
	}
}

// What a line is, the lines around it don't change.
func TestFieldsBetweenOthers(t *testing.T) {
	for _, other := range []string{"odd line\n", "odd\r\n", " x: y\n", "\tx\r\n", ":\n", ": v\r\n", "\r \n", "x y: z\n", "é: z\n", "\x7f:\n"} {
		wantFields(t, other+"a: 1\n"+other+"b: 2\r\n"+other+other+"c: 3\n"+other, "a", "b", "c")
		wantField(t, other+"a: 1\n"+other+"b: 2\r\n"+other+other+"c: 3\nx:", "x", "")
	}
}

// R4, R2
func TestFieldsAsOften(t *testing.T) {
	for range 3 {
		wantFields(t, letter, "From", "To", "Subject", "X-Empty", "Received", "received")
		wantField(t, letter, "subject", "hello")
		wantCut(t, letter[:strings.Index(letter, "Later")], letter[strings.Index(letter, "Later"):])
	}
	if n := len(head.Fields(nil)); n != 0 {
		t.Error(n)
	}
	if h, text := head.Cut(nil); len(h) != 0 || len(text) != 0 {
		t.Error(h, text)
	}
	wantNoField(t, "", "")
}

func TestFieldsOfMany(t *testing.T) {
	var b strings.Builder
	var want []string
	for i := range 100000 {
		want = append(want, "f"+strconv.Itoa(i))
		b.WriteString(want[i] + ": v\r\n")
	}
	wantFields(t, b.String(), want...)
	wantField(t, b.String(), "F99999", "v")
	wantNoField(t, b.String(), "F100000")
}

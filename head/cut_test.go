package head_test

import (
	"bytes"
	"math/rand"
	"regexp"
	"strings"
	"testing"
	"time"

	"cubby/head"
)

// A plainHead is what the chapter's words say of octets.
type plainHead struct {
	head, text string
	fields     []plainField
}

type plainField struct{ name, value string }

// plainly takes octets apart piece by piece, each of which ends with a line feed or is the last one.
func plainly(b string) plainHead {
	h := plainHead{text: b}
	goingOn := false
	for h.text != "" {
		piece := plainPiece.FindString(h.text)
		h.head, h.text = h.head+piece, h.text[len(piece):]
		line := plainEnd.ReplaceAllString(piece, "")
		last := len(h.fields) - 1
		if line == "" {
			break
		} else if m := plainBegin.FindStringSubmatch(line); m != nil {
			h.fields = append(h.fields, plainField{m[1], m[2]})
			goingOn = true
		} else if goingOn && strings.ContainsAny(line[:1], " \t") {
			h.fields[last].value += line
		} else {
			goingOn = false
		}
	}
	for i := range h.fields {
		h.fields[i].value = plainAround.ReplaceAllString(h.fields[i].value, "")
	}
	return h
}

var (
	plainPiece  = regexp.MustCompile(`\A[^\n]*\n?`)
	plainEnd    = regexp.MustCompile(`\r?\n?\z`)
	plainBegin  = regexp.MustCompile(`\A([!-9;-~]+):((?s:.*))\z`)
	plainAround = regexp.MustCompile(`\A[ \t]+|[ \t]+\z`)
)

// first answers the value of the first field of the name, by its letters alone.
func (h plainHead) first(name string) (string, bool) {
	for _, f := range h.fields {
		if plainLow(f.name) == plainLow(name) {
			return f.value, true
		}
	}
	return "", false
}

func plainLow(s string) string {
	b := []byte(s)
	for i, c := range b {
		if strings.IndexByte("ABCDEFGHIJKLMNOPQRSTUVWXYZ", c) >= 0 {
			b[i] = c | 0x20
		}
	}
	return string(b)
}

func wantCut(t *testing.T, h, text string) {
	t.Helper()
	a, b := head.Cut([]byte(h + text))
	if string(a) != h || string(b) != text {
		t.Errorf("Cut(%.80q): %.80q, %.80q, want %.80q, %.80q", h+text, a, b, h, text)
	}
}

// wantAsPlain holds all that is asked of octets against the plain words, and answers what these say.
func wantAsPlain(t *testing.T, b string) plainHead {
	t.Helper()
	h := plainly(b)
	wantCut(t, h.head, h.text)
	names := make([]string, len(h.fields))
	for i, f := range h.fields {
		names[i] = f.name
		value, _ := h.first(f.name)
		wantField(t, b, f.name, value)
	}
	wantFields(t, b, names...)
	for _, name := range []string{"", ":", "a", "A", "b", "\n", " ", "a:", "a\r", " a"} {
		if value, ok := h.first(name); ok {
			wantField(t, b, name, value)
		} else {
			wantNoField(t, b, name)
		}
	}
	return h
}

// P14.1: Cut

func TestCut(t *testing.T) {
	wantCut(t, "Subject: hello\r\nFrom: a\r\n\r\n", "The text.\r\n")
	wantCut(t, "Subject: hello\nFrom: a\n\n", "The text.\n")
	wantCut(t, "Subject: hello\r\n\n", "The text.")
	wantCut(t, "Subject: hello\n\r\n", "The text.")
	wantCut(t, "a:b\n\r\n", "q")
	wantCut(t, "no field at all\n odd\n\n", "x")
}

func TestCutAtTheFirstEmptyLine(t *testing.T) {
	wantCut(t, "\r\n", "")
	wantCut(t, "\n", "")
	wantCut(t, "\r\n", "x")
	wantCut(t, "\n", "x: y\n\nz")
	wantCut(t, "\n", "\nx")
	wantCut(t, "\n", "\n\n\n")
	wantCut(t, "\n", "\r\n")
	wantCut(t, "\r\n", "\n")
	wantCut(t, "\r\n", "\r\n\r\n")
	wantCut(t, "a: b\r\n\r\n", "\r\nc: d\r\n\r\n")
	wantCut(t, "a: b\r\n\r\n", "\r")
	wantCut(t, "a: b\n\n", "\r\r\n")
}

func TestCutWithoutAnEmptyLine(t *testing.T) {
	for _, b := range []string{
		"", "a", "a: b", "a: b\n", "a: b\r\n", "a: b\r", "a: b\n c\r\n\td", "\r", "\r\r", "\r\r\r", "\ra", "\ra\n", "a\n\r", "a\r\n\r", "a\n\rb",
	} {
		wantCut(t, b, "")
	}
}

// A line of a blank, a tab or a carriage return and its end isn't empty: only an end is.
func TestCutAtNoLineThatIsNearlyEmpty(t *testing.T) {
	for _, line := range []string{" ", "\t", "\r", "\r\r", "\x00", "\v", "\f", "\u0085", "\u2028", "\u00a0", "\ufeff", " \r", "\r ", ":"} {
		wantCut(t, "a: b\r\n"+line+"\r\nc: d\r\n\r\n", "x")
		wantCut(t, line+"\r\n\n", "x")
		wantCut(t, line+"x\n\r\n", "x")
		if !strings.HasSuffix(line, "\r") {
			wantCut(t, line+"\n\n", "x")
		}
	}
	wantCut(t, "\r\r\nx", "")
	wantCut(t, "\r\r\n\n", "x")
	wantCut(t, "\r \n\n", "x")
	wantCut(t, "a\r\ra\n\n", "x")
}

func TestCutWithEachByteAtEachPlace(t *testing.T) {
	for _, b := range []string{"a: b\r\n c\r\n\r\nx", "a:\n\nx", "\n\n", "\r\n\r\n", "ab:cd\nA:\r\n\r"} {
		for i := range len(b) + 1 {
			for c := range 256 {
				wantAsPlain(t, b[:i]+string([]byte{byte(c)})+b[i:])
				if i < len(b) {
					wantAsPlain(t, b[:i]+string([]byte{byte(c)})+b[i+1:])
				}
			}
		}
	}
}

// All octets of up to 7 of these bytes.
func TestCutOfAllThatAreShort(t *testing.T) {
	const bytesOfAll = "a: \r\n\t"
	texts, with := []string{""}, 0
	for range 7 {
		var longer []string
		for _, b := range texts {
			for _, c := range bytesOfAll {
				longer = append(longer, b+string(c))
			}
		}
		for _, b := range longer {
			if h := wantAsPlain(t, b); h.text != "" && len(h.fields) > 0 {
				with++
			}
		}
		texts = longer
	}
	if with < 500 {
		t.Error("nearly nothing had a field and a text:", with)
	}
}

func TestCutAtRandom(t *testing.T) {
	pieces := []string{"a", "A", "b", "Subject", "X-Y", ":", ": ", " ", "\t", "\r", "\n", "\r\n", "\r\n\r\n", "\n\n", "\r\n ", "\n\t", "a: ", "b:", "A:x", "\x00", "\x7f", "\x80", "\xff", "é", "!", "~", "\n\r", "\nb: ", "\r\na:", "\nAb:\t"}
	r := rand.New(rand.NewSource(14))
	cut, twice := 0, 0
	for range 60000 {
		var b strings.Builder
		for range r.Intn(32) {
			b.WriteString(pieces[r.Intn(len(pieces))])
		}
		h := wantAsPlain(t, b.String())
		if h.text != "" {
			cut++
		}
		if len(h.fields) > 1 {
			twice++
		}
	}
	if cut < 1000 || twice < 1000 {
		t.Error("nearly nothing had a text, or two fields:", cut, twice)
	}
}

// R1: it ends, not only after an age.
func TestCutEnds(t *testing.T) {
	since := time.Now()
	for _, s := range []string{"a", ":", "\r", " ", "\t", "a: b\n", "a: b\r\n c\r\n", " \n", "\n", "a\n", "a:\n ", "a:a:"} {
		b := bytes.Repeat([]byte(s), 1<<22/len(s))
		a, x := head.Cut(b)
		if len(a)+len(x) != len(b) {
			t.Errorf("Cut of many %q", s)
		}
		head.Field(b, "no such one")
		head.Field(b, "a")
		head.Fields(b)
	}
	if took := time.Since(since); took > time.Minute {
		t.Error("it took", took)
	}
}

func TestCutOfMuch(t *testing.T) {
	long := strings.Repeat("a: b\r\n", 1<<18)
	wantCut(t, long, "")
	wantCut(t, long+"\r\n", long)
	wantCut(t, strings.Repeat("x", 1<<20)+"\n\n", strings.Repeat("\n", 1<<20))
}

// R3: what is handed in stays as it is, spare room too, and an answer is new memory.
func TestCutMemory(t *testing.T) {
	whole := []byte("a: b\r\n\r\nthe text, and spare room")
	b := whole[:16]
	first, text := head.Cut(b)
	second, textToo := head.Cut(b)
	for _, l := range [][]byte{first, text} {
		l = l[:cap(l)]
		for i := range l {
			l[i] = 'Z'
		}
	}
	if string(whole) != "a: b\r\n\r\nthe text, and spare room" {
		t.Errorf("what was handed in, or spare room of it, was changed: %q", whole)
	}
	_ = append(second, "ZZZZZZZZZZ"...)
	clear(whole)
	if string(second) != "a: b\r\n\r\n" || string(textToo) != "the text" {
		t.Errorf("an answer shares memory: %q %q", second, textToo)
	}
	// Where one of them is all, too.
	for _, s := range []string{"a: b", "\n", "\nb"} {
		b = []byte(s)
		first, text = head.Cut(b)
		clear(b)
		if string(first)+string(text) != s {
			t.Errorf("an answer of Cut(%q) shares memory", s)
		}
	}
}

package lex_test

import (
	"regexp"
	"slices"
	"strconv"
	"strings"
	"testing"

	"cubby/lex"
)

const (
	mostInLine  = 2000
	mostOctets  = 20000
	mostTold    = 100
	mostTokens  = 200
	bytesOfAtom = `[!#-'*-z|}~]`
)

// A told is a unit that can be compared: its kind's digit, and its bytes.
type told string

func toldOf(l []lex.Unit) []told {
	var units []told
	for _, u := range l {
		units = append(units, told(strconv.Itoa(u.Kind)+string(u.B)))
	}
	return units
}

const asked told = "4"

func command(b string) told { return told("1" + b) }

func longLine(b string) told { return told("2" + b) }

func longLiteral(b string) told { return told("3" + b) }

// plainFeed tells by the chapter's words what all that came completes, and whether bytes of a literal are still to come. It
// goes line by line, and has all of them at once.
func plainFeed(b string) ([]told, bool) {
	var units []told
	came := ""
	for {
		line, rest, ends := strings.Cut(b, "\r\n")
		if !ends {
			return units, false
		}
		came += line
		n := plainLength(line)
		switch {
		case len(line) > mostInLine:
			units, came = append(units, longLine(plainFirst(came))), ""
		case n > mostOctets:
			units, came = append(units, longLiteral(plainFirst(came))), ""
		case n < 0:
			units, came = append(units, command(came)), ""
		default:
			units = append(units, asked)
			if len(rest) < n {
				return units, true
			}
			came += "\r\n" + rest[:n]
			rest = rest[n:]
		}
		b = rest
	}
}

func plainFirst(s string) string { return s[:min(mostTold, len(s))] }

// plainLength answers how long the literal is that a line asks for; -1 without one.
func plainLength(line string) int {
	m := plainAsking.FindStringSubmatch(line)
	if m == nil {
		return -1
	}
	n, _ := strconv.Atoi(m[1])
	return n
}

var plainAsking = regexp.MustCompile(`\{([0-9]{1,6})\}\z`)

// fed answers what a new chunk tells, to which pieces come one by one.
func fed(pieces ...string) ([]told, bool) {
	var c lex.Chunk
	var units []told
	for _, p := range pieces {
		units = append(units, toldOf(c.Feed([]byte(p)))...)
	}
	return units, c.Waits()
}

func wantPieces(t *testing.T, want []told, waits bool, pieces ...string) {
	t.Helper()
	if got, w := fed(pieces...); !slices.Equal(got, want) || w != waits {
		t.Errorf("Feed of %.120q: %.200q, %v, want %.200q, %v", pieces, got, w, want, waits)
	}
}

// wantFeed holds what b completes, in whatever pieces it comes, against what is wanted.
func wantFeed(t *testing.T, b string, want ...told) {
	t.Helper()
	if got, _ := plainFeed(b); !slices.Equal(got, want) {
		t.Fatalf("the plain words say of %.120q: %.200q, not %.200q", b, got, want)
	}
	wantFeedAsPlain(t, b)
}

// wantFeedAsPlain holds what b completes, whole, in two pieces and in many, against the plain words.
func wantFeedAsPlain(t *testing.T, b string) []told {
	t.Helper()
	want, waits := plainFeed(b)
	wantPieces(t, want, waits, b)
	step := 1 + len(b)/50
	for at := 0; at <= len(b); at += step {
		wantPieces(t, want, waits, b[:at], b[at:])
	}
	for _, size := range []int{1, 2, 3, 7, 64} {
		wantPieces(t, want, waits, piecesOf(b, size)...)
	}
	return want
}

func piecesOf(b string, size int) []string {
	var pieces []string
	for p := range slices.Chunk([]byte(b), size) {
		pieces = append(pieces, string(p))
	}
	return pieces
}

// wantEachByte holds, behind each byte of b, what is told since, and whether a literal is waited for, against the plain
// words.
func wantEachByte(t *testing.T, b string) {
	t.Helper()
	var c lex.Chunk
	var units []told
	for n := range len(b) {
		units = append(units, toldOf(c.Feed([]byte{b[n]}))...)
		if want, waits := plainFeed(b[:n+1]); !slices.Equal(units, want) || c.Waits() != waits {
			t.Errorf("byte by byte %.120q: %.200q, %v, want %.200q, %v", b[:n+1], units, c.Waits(), want, waits)
		}
	}
}

// plainTokens goes by the chapter's words: it takes tokens out of b, blanks or none between, and asks then whether b is what
// they are when they are put together again.
func plainTokens(b string) ([]lex.Token, bool) {
	var l []lex.Token
	var raws []string
	brackets := ""
	for rest := b; rest != ""; {
		rest = strings.TrimLeft(rest, " ")
		raw, token, ok := plainToken(rest)
		if !ok {
			return nil, false
		}
		if token.Kind > 2 {
			brackets += raw
		}
		l, raws, rest = append(l, token), append(raws, raw), rest[len(raw):]
	}
	if len(l) > mostTokens || !arePairs(brackets) || together(raws) != b {
		return nil, false
	}
	return l, true
}

func plainToken(b string) (string, lex.Token, bool) {
	if m := plainAtom.FindString(b); m != "" {
		return m, lex.Token{Kind: 1, Text: m}, true
	}
	if m := plainQuoted.FindStringSubmatch(b); m != nil {
		return m[0], lex.Token{Kind: 2, Text: plainEscape.ReplaceAllString(m[1], "$1")}, !strings.Contains(m[0], "\r\n")
	}
	if m := plainLiteral.FindStringSubmatch(b); m != nil {
		n, _ := strconv.Atoi(m[1])
		n += len(m[0])
		if n > len(b) {
			return "", lex.Token{}, false
		}
		return b[:n], lex.Token{Kind: 2, Text: b[len(m[0]):n]}, true
	}
	kind := strings.Index("...()", plainFirstByte(b))
	return plainFirstByte(b), lex.Token{Kind: kind}, kind > 2
}

func plainFirstByte(b string) string {
	if b == "" {
		return "?"
	}
	return b[:1]
}

var (
	plainAtom    = regexp.MustCompile(`\A` + bytesOfAtom + `+`)
	plainQuoted  = regexp.MustCompile(`\A"((?:[^"\\]|\\["\\])*)"`)
	plainEscape  = regexp.MustCompile(`\\(["\\])`)
	plainLiteral = regexp.MustCompile(`\A\{([0-9]{1,6})\}\r\n`)
)

func arePairs(brackets string) bool {
	for strings.Contains(brackets, "()") {
		brackets = strings.ReplaceAll(brackets, "()", "")
	}
	return brackets == ""
}

// together answers what tokens as they stand are with a blank between, where there has to be one.
func together(raws []string) string {
	s := ""
	for i, raw := range raws {
		if i > 0 && raws[i-1] != "(" && raw != ")" {
			s += " "
		}
		s += raw
	}
	return s
}

func wantTokens(t *testing.T, b string, want ...lex.Token) {
	t.Helper()
	if got, ok := lex.Tokens([]byte(b)); !ok || !slices.Equal(got, want) {
		t.Errorf("Tokens(%.120q): %.200q, %v, want %.200q, true", b, shown(got), ok, shown(want))
	}
}

func wantNoTokens(t *testing.T, b string) {
	t.Helper()
	if got, ok := lex.Tokens([]byte(b)); ok || len(got) != 0 {
		t.Errorf("Tokens(%.120q): %.200q, %v, want none, false", b, shown(got), ok)
	}
}

func wantTokensAsPlain(t *testing.T, b string) bool {
	t.Helper()
	l, ok := plainTokens(b)
	if ok {
		wantTokens(t, b, l...)
	} else {
		wantNoTokens(t, b)
	}
	return ok
}

// shown tells tokens as Errorf can cut them: each one's kind's digit, and its text.
func shown(l []lex.Token) []string {
	var out []string
	for _, x := range l {
		out = append(out, strconv.Itoa(x.Kind)+x.Text)
	}
	return out
}

func atom(s string) lex.Token { return lex.Token{Kind: 1, Text: s} }

func text(s string) lex.Token { return lex.Token{Kind: 2, Text: s} }

func opening() lex.Token { return lex.Token{Kind: 3} }

func closing() lex.Token { return lex.Token{Kind: 4} }

package lex

import (
	"bytes"
	"strings"
)

// The kinds of tokens.
const (
	anAtom = 1 + iota
	aText
	anOpening
	aClosing
)

const maxTokens = 200

// Token is an atom, a text (one in quotes, or a literal), a ( or a ).
type Token struct {
	Kind int
	Text string
}

// Tokens answers the tokens that b is, and whether it is such.
func Tokens(b []byte) ([]Token, bool) {
	var l []Token
	open := 0
	for len(b) > 0 {
		rest, ok := cutGap(l, b)
		if !ok || len(l) == maxTokens {
			return nil, false
		}
		var t Token
		t, b, ok = cutToken(rest)
		if !ok {
			return nil, false
		}
		open += opens(t)
		if open < 0 {
			return nil, false
		}
		l = append(l, t)
	}
	if open > 0 {
		return nil, false
	}
	return l, true
}

// opens answers how many more pairs are open behind t than ahead of it.
func opens(t Token) int {
	switch t.Kind {
	case anOpening:
		return 1
	case aClosing:
		return -1
	}
	return 0
}

// cutGap answers what stands behind the gap between the tokens l and those that b goes on with, and whether it is as it has
// to be: one blank, or nothing at an end, behind a ( and ahead of a ).
func cutGap(l []Token, b []byte) ([]byte, bool) {
	if len(l) == 0 || l[len(l)-1].Kind == anOpening || b[0] == ')' {
		return b, true
	}
	// What isn't a token there, as nothing or another blank, needn't be asked for here; a ) is one.
	rest, ok := bytes.CutPrefix(b, []byte{' '})
	return rest, ok && !bytes.HasPrefix(rest, []byte{')'})
}

// cutToken answers the token that b begins with, and what stands behind it.
func cutToken(b []byte) (Token, []byte, bool) {
	if len(b) == 0 {
		return Token{}, nil, false
	}
	switch b[0] {
	case '(':
		return Token{Kind: anOpening}, b[1:], true
	case ')':
		return Token{Kind: aClosing}, b[1:], true
	case '"':
		return cutQuoted(b[1:])
	case '{':
		return cutLiteral(b[1:])
	}
	return cutAtom(b)
}

func cutAtom(b []byte) (Token, []byte, bool) {
	n := 0
	for n < len(b) && isAtomByte(b[n]) {
		n++
	}
	return Token{anAtom, string(b[:n])}, b[n:], n > 0
}

func isAtomByte(c byte) bool {
	switch c {
	case '(', ')', '{', '"':
		return false
	}
	return '!' <= c && c <= '~'
}

// cutQuoted answers the text that b begins with, behind its first quote. A line's end isn't in it: what stands behind it is
// of another line.
func cutQuoted(b []byte) (Token, []byte, bool) {
	var text strings.Builder
	for i := 0; i < len(b); i++ {
		switch {
		case b[i] == '"':
			return Token{aText, text.String()}, b[i+1:], true
		case b[i] == '\\':
			i++
			if i == len(b) || b[i] != '"' && b[i] != '\\' {
				return Token{}, nil, false
			}
		case bytes.HasPrefix(b[i:], []byte(lineEnd)):
			return Token{}, nil, false
		}
		text.WriteByte(b[i])
	}
	return Token{}, nil, false
}

// cutLiteral answers the literal that b begins with, behind its {.
func cutLiteral(b []byte) (Token, []byte, bool) {
	told, rest, ends := bytes.Cut(b, []byte(lineEnd))
	n, ok := literalLength(told)
	if !ends || !ok || n > len(rest) {
		return Token{}, nil, false
	}
	return Token{aText, string(rest[:n])}, rest[n:], true
}

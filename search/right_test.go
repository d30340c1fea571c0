package search_test

import (
	"math"
	"strings"
	"testing"

	"cubby/lex"
)

// P17.1: Right

// names answers all names of keys, each with what it has.
func names() map[string]string {
	l := map[string]string{"ALL": "", "SUBJECT": " x", "FROM": " x", "TO": " x", "BODY": " x", "TEXT": " x", "LARGER": " 5", "SMALLER": " 5", "UID": " 5", "NOT": " ALL", "OR": " ALL 1"}
	for _, name := range []string{"SEEN", "ANSWERED", "FLAGGED", "DELETED", "DRAFT"} {
		l[name], l["UN"+name] = "", ""
	}
	return l
}

func TestRightOfNames(t *testing.T) {
	for name, has := range names() {
		for _, written := range inLetters(name) {
			line := written + has
			for _, right := range []string{line, "(" + line + ")", "NOT " + line, "OR " + line + " " + line, line + " " + line, "ALL " + line + " ALL"} {
				if !wantAsPlain(t, some(), tokensOf(t, right)) {
					t.Errorf("%q aren't taken as keys", right)
				}
			}
			for _, wrong := range []string{written[1:], written[:len(written)-1], written + "S", "X" + written, "\\" + written, written + ":", written + "1", written + ",", written + ".", "UNUN" + written, "un-" + written} {
				wantNone(t, wrong+has)
			}
			for _, wrong := range []string{quoted(written) + has, literal(written) + has, line + " \"\"", line + " ALL " + quoted(written), "(" + line + ") \"\"", "(" + line + " \"\")"} {
				wantNone(t, wrong)
			}
			if has == "" {
				// It has nothing: what stands behind is another key.
				wantNone(t, line+" x")
				continue
			}
			for _, wrong := range []string{written, "(" + written + ")", "(" + written + ")" + has, "ALL " + written, "UN" + line} {
				wantNone(t, wrong)
			}
		}
	}
	for _, name := range []string{"UNALL", "UNUID", "UNNOT", "UNOR", "UN", "NEW", "OLD", "RECENT", "KEYWORD x", "UNKEYWORD x", "CC x", "BCC x", "HEADER a b", "BEFORE 1-Jan-1970", "SINCE 1-Jan-1970", "ON 1-Jan-1970", "SENTON 1-Jan-1970", "CHARSET UTF-8 ALL", "AND", "XOR 1 2", "\\Seen", "\\SEEN", "BOGUS", "HASALL", "NOTALL", "ORALL ALL", "NIL", "SEEN,DELETED", "1ALL", "*ALL"} {
		wantNone(t, name)
		wantNone(t, "NOT "+name)
		wantNone(t, "("+name+")")
		wantNone(t, "ALL "+name)
	}
}

// Letters that become others elsewhere don't here.
func TestRightOfLettersThatAreFoldedElsewhere(t *testing.T) {
	for _, name := range []string{"\u017feen", "\u017fEEN", "UN\u017fEEN", "\u017fubject", "un\u0131", "U\u0131D", "u\u0130d", "A\u217c\u217c", "\uff21LL", "ALL\x00", "ALL ", " ALL", "AL\u200bL", "\uff11", "1 ", " 1", "\u0661"} {
		wantNoKeys(t, []lex.Token{atom(name)})
		wantNoKeys(t, []lex.Token{atom(name), atom("1")})
		wantNoKeys(t, []lex.Token{atom(name), text("1")})
	}
	for name := range names() {
		for i := range len(name) {
			// The bit that tells great letters from small ones tells other bytes apart.
			for _, c := range []byte{name[i] | 0x80, name[i] | 0xa0, name[i] & 0x1f, name[i] ^ 0x60} {
				wantNoKeys(t, []lex.Token{atom(name[:i] + string([]byte{c}) + name[i+1:]), atom("1"), atom("1")})
			}
		}
	}
}

// Every byte at every place of a name, and beside it.
func TestRightOfEachByteOfNames(t *testing.T) {
	for name, has := range names() {
		behind := tokensOf(t, "ALL"+has)[1:]
		for i := range len(name) + 1 {
			for c := range 256 {
				by := string([]byte{byte(c)})
				wantAsPlain(t, some(), append([]lex.Token{atom(name[:i] + by + name[i:])}, behind...))
				if i < len(name) {
					wantAsPlain(t, some(), append([]lex.Token{atom(name[:i] + by + name[i+1:])}, behind...))
				}
			}
		}
	}
}

func TestRightOfNothing(t *testing.T) {
	wantNoKeys(t, nil)
	wantNoKeys(t, []lex.Token{})
	wantNoKeys(t, []lex.Token{{}})
	wantNoKeys(t, []lex.Token{atom("")})
	wantNoKeys(t, []lex.Token{text("")})
	wantNoKeys(t, []lex.Token{text("ALL")})
	wantNoKeys(t, []lex.Token{text("1")})
	for _, line := range []string{"()", "(())", "() ALL", "ALL ()", "NOT ()", "OR () ALL", "OR ALL ()", "(ALL ())"} {
		wantNone(t, line)
	}
}

// What isn't pairs: layer 15 never tells such.
func TestRightOfPairs(t *testing.T) {
	o, c, all, not, or := opening(), closing(), atom("ALL"), atom("NOT"), atom("OR")
	for _, tokens := range [][]lex.Token{
		{o}, {c}, {o, all}, {all, c}, {c, all}, {all, o}, {c, o}, {c, all, o}, {o, all, c, c}, {o, o, all, c}, {all, c, o, all}, {o, all, c, o}, {o, all, c, c, o, all, c}, {o, c, all}, {not, o}, {not, c}, {o, not, c, all}, {o, or, all, c, all}, {or, o, all, c}, {or, all, c}, {o, atom("SUBJECT"), c, text("x")}, {atom("SUBJECT"), o, text("x"), c}, {atom("SUBJECT"), c}, {atom("UID"), o, atom("1"), c}, {atom("LARGER"), o, atom("1"), c},
	} {
		wantNoKeys(t, tokens)
	}
	wantKeys(t, some(), []lex.Token{o, all, c}, 0, 1, 2, 3, 4, 5)
	wantKeys(t, some(), []lex.Token{o, o, all, c, atom("1"), c, o, atom("1"), c}, 0)
}

// A word may be any atom or text; a number and a set are atoms.
func TestRightOfWhatKeysHave(t *testing.T) {
	for _, name := range []string{"SUBJECT", "FROM", "TO", "BODY", "TEXT"} {
		for _, word := range []string{"x", "", "ALL", "NOT", "1", "*", " ", "a b", "(", ")", "\"", "\r\n", "\x00\xff", "é", strings.Repeat("w", 100000)} {
			for _, token := range []lex.Token{atom(word), text(word)} {
				if !wantAsPlain(t, some(), []lex.Token{atom(name), token}) {
					t.Errorf("%s and %.40q aren't taken as a key", name, word)
				}
				wantAsPlain(t, some(), []lex.Token{atom(name), token, token})
			}
		}
		wantNoKeys(t, []lex.Token{atom(name), opening()})
		wantNoKeys(t, []lex.Token{atom(name), {Kind: 3, Text: "x"}})
		wantNoKeys(t, []lex.Token{atom(name), {Kind: 4, Text: "x"}})
		wantNoKeys(t, []lex.Token{atom(name), {Kind: 0, Text: "x"}})
	}
	for _, name := range []string{"LARGER", "SMALLER"} {
		for _, n := range []string{"0", "00", "1", "9", "000000000", "123456789", "999999999"} {
			if !wantAsPlain(t, some(), []lex.Token{atom(name), atom(n)}) {
				t.Errorf("%s and %q aren't taken as a key", name, n)
			}
			wantNoKeys(t, []lex.Token{atom(name), text(n)})
		}
		for _, n := range []string{"", "-1", "+1", "-0", "+0", "1.", "1.0", ".1", "1e1", "0x1", "0b1", "1_0", "1,2", "1:2", "*", "x", "1x", "x1", " 1", "1 ", "1\x00", "\uff11", "\u0661", "0000000000", "1234567890", "0000000001", "9999999999", "99999999999999999999", strings.Repeat("1", 100000), "ALL"} {
			wantNoKeys(t, []lex.Token{atom(name), atom(n)})
			wantNoKeys(t, []lex.Token{atom(name), atom(n), atom("1")})
		}
		for c := range 256 {
			by := string([]byte{byte(c)})
			for _, n := range []string{by, "1" + by, by + "1", "1" + by + "1"} {
				wantAsPlain(t, some(), []lex.Token{atom(name), atom(n)})
			}
		}
	}
	for _, s := range sets() {
		wantNoKeys(t, []lex.Token{text(s)})
		wantNoKeys(t, []lex.Token{atom("UID"), text(s)})
		wantNoKeys(t, []lex.Token{atom("UID"), {Kind: 3, Text: s}})
	}
}

// A token of no kind is nothing, wherever it stands.
func TestRightOfOtherKinds(t *testing.T) {
	for _, line := range []string{"ALL", "1", "SUBJECT x", "LARGER 5", "UID 5", "NOT ALL", "OR ALL 1", "(ALL)", "NOT (OR SEEN UID 5) BODY x"} {
		for _, kind := range []int{0, 5, 6, -1, -4, 256 + 1, 1<<32 + 1, math.MaxInt, math.MinInt} {
			tokens := tokensOf(t, line)
			for i := range tokens {
				was := tokens[i]
				tokens[i].Kind = kind
				wantNoKeys(t, tokens)
				tokens[i] = was
			}
			wantNoKeys(t, append(tokens, lex.Token{Kind: kind, Text: "ALL"}))
			wantNoKeys(t, append([]lex.Token{{Kind: kind, Text: "ALL"}}, tokens...))
		}
	}
}

// Ten deep, and no deeper.
func TestRightOfDepth(t *testing.T) {
	leaves := []string{"ALL", "UNSEEN", "1:*", "UID 5", "SUBJECT x", "LARGER 5"}
	wraps := []string{"NOT ?", "OR ? 1", "OR 1 ?", "(?)", "(1 ?)", "(? 1)", "(1 ? 1)", "NOT (?)", "OR (1) (?)", "(NOT ?)", "OR NOT 1 ?", "OR ? ?"}
	for _, leaf := range leaves {
		for _, wrap := range wraps[:7] {
			line := leaf
			for depth := 1; depth <= 15; depth++ {
				for _, with := range []string{line, "ALL " + line, line + " ALL", "SEEN " + line + " 2:3"} {
					if is := wantAsPlain(t, some(), tokensOf(t, with)); is != (depth <= 10) {
						t.Errorf("%q, %d deep: %v", with, depth, is)
					}
				}
				line = strings.Replace(wrap, "?", line, 1)
			}
		}
	}
	for _, first := range wraps {
		for _, second := range wraps {
			line := "ALL"
			for i := range 14 {
				if wrap := []string{first, second}[i%2]; wrap == "OR ? ?" && len(line) > 100 {
					line = strings.Replace("OR ? 1", "?", line, 1)
				} else {
					line = strings.ReplaceAll(wrap, "?", line)
				}
				if tokens, ok := lex.Tokens([]byte(line)); ok {
					wantAsPlain(t, some(), tokens)
				}
			}
		}
	}
	// Keys one behind the other are none deeper, and what is deep ends there.
	wantFound(t, some(), strings.Repeat("ALL ", 199)+"1", 0)
	nine := strings.Repeat("NOT ", 9)
	wantFound(t, some(), nine+"SEEN "+nine+"2", 2, 3, 5)
	wantFound(t, some(), "(((((((((1)))))))))", 0)
	wantNone(t, "((((((((((1))))))))))")
	wantFound(t, some(), nine+"1", 1, 2, 3, 4, 5)
	wantNone(t, nine+"(1)")
	wantNone(t, nine+"OR 1 1")
	wantNone(t, nine+"1 "+nine+"NOT 1")
	wantFound(t, some(), strings.Repeat("OR 1 ", 9)+"2", 0, 1)
	wantNone(t, strings.Repeat("OR 1 ", 10)+"2")
	wantFound(t, some(), strings.Repeat("OR ", 9)+"1 2 3 1 1 1 1 1 1 1", 0, 1, 2)
	wantNone(t, strings.Repeat("OR ", 10)+"1 2 3 1 1 1 1 1 1 1 1")
}

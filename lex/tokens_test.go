package lex_test

import (
	"bytes"
	"math/rand"
	"slices"
	"strconv"
	"strings"
	"testing"
	"time"

	"cubby/lex"
)

// P15.2

func TestTokensOfCommands(t *testing.T) {
	wantTokens(t, "")
	wantTokens(t, "A1 NOOP", atom("A1"), atom("NOOP"))
	wantTokens(t, "a LOGIN \"joe b\" eoj", atom("a"), atom("LOGIN"), text("joe b"), atom("eoj"))
	wantTokens(t, "a STORE 1:* +FLAGS (\\Seen \\Draft)", atom("a"), atom("STORE"), atom("1:*"), atom("+FLAGS"), opening(), atom("\\Seen"), atom("\\Draft"), closing())
	wantTokens(t, "a LIST \"\" *", atom("a"), atom("LIST"), text(""), atom("*"))
	wantTokens(t, "a FETCH 2,4 (UID BODY[HEADER])", atom("a"), atom("FETCH"), atom("2,4"), opening(), atom("UID"), atom("BODY[HEADER]"), closing())
	wantTokens(t, "a APPEND x () {5}\r\na\r\nb ", atom("a"), atom("APPEND"), atom("x"), opening(), closing(), text("a\r\nb "))
}

func TestTokensOfAtoms(t *testing.T) {
	for c := range 256 {
		s := string([]byte{byte(c)})
		if c >= '!' && c <= '~' && !strings.Contains("(){\"", s) {
			wantTokens(t, s, atom(s))
			wantTokens(t, "a"+s+"b", atom("a"+s+"b"))
			wantTokens(t, s+s+" "+s, atom(s+s), atom(s))
			wantTokens(t, "("+s+")", opening(), atom(s), closing())
		} else {
			wantNoTokens(t, s)
			wantNoTokens(t, "a "+s)
			if s != " " {
				wantNoTokens(t, "a"+s+"b")
			}
		}
	}
	wantTokens(t, ";", atom(";"))
	wantTokens(t, "}a }", atom("}a"), atom("}"))
	wantTokens(t, "\\ \\\\", atom("\\"), atom("\\\\"))
	wantTokens(t, x(100000), atom(x(100000)))
	for _, s := range []string{"é", "aé", "\u00a0", "a\u00a0b", "\x7f", "\xff", "a\tb", "a\r\n", "\r\n", "a\r\nb", "a\nb", "a\r"} {
		wantNoTokens(t, s)
	}
}

func TestTokensOfTexts(t *testing.T) {
	for b, want := range map[string]string{
		`""`:                                     "",
		`" "`:                                    " ",
		`"a"`:                                    "a",
		`"  a  b "`:                              "  a  b ",
		`"\""`:                                   `"`,
		`"\\"`:                                   `\`,
		`"\\\""`:                                 `\"`,
		`"\"\\"`:                                 `"\`,
		`"a\"b\\c"`:                              `a"b\c`,
		`"\\\\"`:                                 `\\`,
		`"\\n"`:                                  `\n`,
		`"()"`:                                   "()",
		`"( a )"`:                                "( a )",
		`"{3}"`:                                  "{3}",
		`"{"`:                                    "{",
		"\"\x00\x7f\t\"":                         "\x00\x7f\t",
		"\"é\xff\"":                              "é\xff",
		"\"a\nb\"":                               "a\nb",
		"\"a\rb\"":                               "a\rb",
		"\"\r\"":                                 "\r",
		"\"\n\r\"":                               "\n\r",
		"\"\r\r\"":                               "\r\r",
		`"` + x(100000) + `"`:                    x(100000),
		`"` + strings.Repeat(`\"\\`, 5000) + `"`: strings.Repeat(`"\`, 5000),
	} {
		wantTokens(t, b, text(want))
		wantTokens(t, "a "+b+" b", atom("a"), text(want), atom("b"))
		wantTokens(t, b+" "+b, text(want), text(want))
		wantTokens(t, "("+b+" "+b+")", opening(), text(want), text(want), closing())
		wantNoTokens(t, b+b)
		wantNoTokens(t, b+"b")
		wantNoTokens(t, "a"+b)
		wantNoTokens(t, b+"(a)")
		wantNoTokens(t, b[:len(b)-1])
		wantNoTokens(t, "a "+b[:len(b)-1])
	}
}

func TestTokensOfNoTexts(t *testing.T) {
	for _, b := range []string{
		`"`, `"a`, `"\"`, `"\`, `"a\`, `"\\\"`, `"""`, `""""`, `"a"b"`, `"\a"`, `"\ "`, `"\n"`, `"\0"`, `"a\(b"`, "\"\\\r\"", "\"\\\r\n\"", "\"\\\x00\"", "\"\\é\"", `a"`, `"a" "`, `'a' "`, `" "a"`,
		// A line's end isn't in a text.
		"\"\r\n\"", "\"a\r\nb\"", "\"{1}\r\na\"", "\"a {3}\r\nabc\"", "\"\r\r\n\"", "\"\n\r\n\"",
	} {
		wantNoTokens(t, b)
		wantNoTokens(t, "a "+b)
		wantNoTokens(t, b+" b")
	}
}

func TestTokensOfLiterals(t *testing.T) {
	for b, want := range map[string]string{
		"{0}\r\n":                          "",
		"{00}\r\n":                         "",
		"{000000}\r\n":                     "",
		"{1}\r\na":                         "a",
		"{01}\r\na":                        "a",
		"{000001}\r\na":                    "a",
		"{1}\r\n ":                         " ",
		"{1}\r\n)":                         ")",
		"{1}\r\n(":                         "(",
		"{1}\r\n\"":                        "\"",
		"{1}\r\n\\":                        "\\",
		"{2}\r\n\\\"":                      "\\\"",
		"{2}\r\n\r\n":                      "\r\n",
		"{5}\r\n{1}\r\n":                   "{1}\r\n",
		"{6}\r\na b\r\n)":                  "a b\r\n)",
		"{4}\r\n\x00\x7f\x80\xff":          "\x00\x7f\x80\xff",
		"{20000}\r\n" + x(20000):           x(20000),
		"{11}\r\nb NOOP\r\nc {":            "b NOOP\r\nc {",
		"{10}\r\n0123456789":               "0123456789",
		"{003}\r\nabc":                     "abc",
		"{123}\r\n" + x(122) + "{":         x(122) + "{",
		"{2}\r\n\n\r":                      "\n\r",
		"{000010}\r\n\"\"\"\"\"\"\"\"\"\"": `""""""""""`,
	} {
		wantTokens(t, b, text(want))
		wantTokens(t, "a "+b, atom("a"), text(want))
		wantTokens(t, b+" b", text(want), atom("b"))
		wantTokens(t, b+" "+b, text(want), text(want))
		wantTokens(t, "("+b+")", opening(), text(want), closing())
		wantTokens(t, "("+b+" ("+b+"))", opening(), text(want), opening(), text(want), closing(), closing())
		wantNoTokens(t, b+"b")
		wantNoTokens(t, b+b)
		wantNoTokens(t, b+"(")
		wantNoTokens(t, b+"\"\"")
		wantNoTokens(t, b+" ")
		wantNoTokens(t, "a"+b)
		wantNoTokens(t, b+"\r\n")
		wantNoTokens(t, b[:len(b)-1])
	}
}

func TestTokensOfNoLiterals(t *testing.T) {
	for _, b := range []string{
		"{", "}{", "{}", "{1", "{1}", "{1}a", "{1}\r", "{1}\n", "{1}\na", "{1}\ra", "{1}\n\ra", "{1}\r\r\na", "{1}\r\n", "{2}\r\na", "{3}\r\nab", "{}\r\n", "{}\r\na", "{a}\r\na", "{ 1}\r\na", "{1 }\r\na", "{1} \r\na", "{+1}\r\na", "{-1}\r\na", "{-0}\r\n", "{1+}\r\na", "{0x1}\r\na", "{1.}\r\na", "{{1}}\r\na", "{{1}\r\na", "{1}}\r\na", "{1{1}\r\na",
		"{0000000}\r\n", "{0000001}\r\na", "{9999999}\r\na", "{999999}\r\na", "{18446744073709551617}\r\na", "{4294967297}\r\na", "{" + strings.Repeat("0", 1000) + "1}\r\na", "{１}\r\na", "{1\r\n}a", "{\r\n", "{\r\na", "{1}{1}\r\na", "{1} {1}\r\na", "{1}\r\n{1}\r\na", "(1}\r\na", "{1)\r\na", "[1]\r\na",
	} {
		wantNoTokens(t, b)
		wantNoTokens(t, "a "+b)
		wantNoTokens(t, "("+b+")")
	}
}

func TestTokensOfPairs(t *testing.T) {
	wantTokens(t, "()", opening(), closing())
	wantTokens(t, "(())", opening(), opening(), closing(), closing())
	wantTokens(t, "() ()", opening(), closing(), opening(), closing())
	wantTokens(t, "(() ())", opening(), opening(), closing(), opening(), closing(), closing())
	wantTokens(t, "((a) b)", opening(), opening(), atom("a"), closing(), atom("b"), closing())
	wantTokens(t, "a (b) c", atom("a"), opening(), atom("b"), closing(), atom("c"))
	for _, b := range []string{"(", ")", "((", "))", ")(", ") (", "(()", "())", "()) (()", "a )", "a)", "(a", "a (", "(a))", "((a)", "() )", "( (", "a) (b", "(a) b)", "\"(\")", "(\")\"", "({1}\r\n)", ")a(", "(a) (b"} {
		wantNoTokens(t, b)
	}
}

func TestTokensOfGaps(t *testing.T) {
	raws := map[string]lex.Token{"a": atom("a"), "\"b\"": text("b"), "{1}\r\nc": text("c"), "()": {}, "(d)": {}}
	for one := range raws {
		for other := range raws {
			if _, ok := lex.Tokens([]byte(one + " " + other)); !ok {
				t.Errorf("%q and %q with a blank between", one, other)
			}
			for _, gap := range []string{"", "  ", "   ", "\t", " \t", "\t ", "\r\n", " \r\n", "\r\n ", "\n", "\x00", "\u00a0", " \u00a0"} {
				// Two atoms with nothing between are one.
				if one+gap+other != "aa" {
					wantNoTokens(t, one+gap+other)
				}
			}
		}
		for _, b := range []string{" " + one, one + " ", " " + one + " ", "( " + one + ")", "(" + one + " )", "( " + one + " )", "(" + one + "  " + one + ")", "\t" + one, one + "\t", one + "\r\n", "\r\n" + one, one + "\x00"} {
			wantNoTokens(t, b)
		}
	}
	for _, b := range []string{" ", "  ", "( )", "(() )", "( ())", "()()", "(())()", "(a)(b)", "((a)(b))", "(a)b", "a(b)", " ()", "() "} {
		wantNoTokens(t, b)
	}
}

func TestTokensOfCounts(t *testing.T) {
	one := map[string]lex.Token{"a": atom("a"), "\"\"": text(""), "{1}\r\n ": text(" ")}
	for raw, token := range one {
		for _, n := range []int{1, 2, 100, 199, 200} {
			wantTokens(t, strings.Repeat(raw+" ", n-1)+raw, slices.Repeat([]lex.Token{token}, n)...)
			wantNoTokens(t, strings.Repeat(raw+" ", n))
		}
		for _, n := range []int{201, 202, 256, 257, 400, 456, 65536, 65736} {
			wantNoTokens(t, strings.Repeat(raw+" ", n-1)+raw)
		}
		// The ( and ) count, too.
		want := slices.Concat([]lex.Token{opening()}, slices.Repeat([]lex.Token{token}, 198), []lex.Token{closing()})
		wantTokens(t, "("+strings.Repeat(raw+" ", 197)+raw+")", want...)
		wantNoTokens(t, "("+strings.Repeat(raw+" ", 198)+raw+")")
	}
	for n := 1; n <= 110; n++ {
		deep, flat := strings.Repeat("(", n)+strings.Repeat(")", n), strings.Repeat("() ", n-1)+"()"
		if n > 100 {
			wantNoTokens(t, deep)
			wantNoTokens(t, flat)
			continue
		}
		wantTokens(t, deep, slices.Concat(slices.Repeat([]lex.Token{opening()}, n), slices.Repeat([]lex.Token{closing()}, n))...)
		wantTokens(t, flat, slices.Repeat([]lex.Token{opening(), closing()}, n)...)
	}
	wantNoTokens(t, strings.Repeat("()", 100)+" a")
	wantNoTokens(t, strings.Repeat("(", 100)+"a"+strings.Repeat(")", 100))
	wantNoTokens(t, strings.Repeat("a ", 200)+")")
}

func TestTokensWithEachByteAtEachPlace(t *testing.T) {
	for _, b := range []string{"a1 (x \"q \\\" \\\\\" ()) {3}\r\na)\n BODY[]", "", "a b", "\"a\"", "()", "{2}\r\nab", "(a (b))", "{0}\r\n {1}\r\n\r"} {
		for i := range len(b) + 1 {
			for c := range 256 {
				wantTokensAsPlain(t, b[:i]+string([]byte{byte(c)})+b[i:])
				if i < len(b) {
					wantTokensAsPlain(t, b[:i]+string([]byte{byte(c)})+b[i+1:])
				}
			}
			wantTokensAsPlain(t, b[:i])
			wantTokensAsPlain(t, b[i:])
		}
	}
}

// All that are of up to 6 of these.
func TestTokensOfAllThatAreShort(t *testing.T) {
	right := 0
	var walk func(b string, left int)
	walk = func(b string, left int) {
		if wantTokensAsPlain(t, b) {
			right++
		}
		for _, p := range []string{"a", " ", "(", ")", "\"", "\\", "{1}", "\r\n"} {
			if left > 0 {
				walk(b+p, left-1)
			}
		}
	}
	walk("", 6)
	if right < 1000 {
		t.Error("nearly nothing was right:", right)
	}
}

func TestTokensAtRandom(t *testing.T) {
	r := rand.New(rand.NewSource(152))
	right, wrong := 0, 0
	for range 30000 {
		b := together(randomRaws(r))
		if r.Intn(2) == 0 {
			at := r.Intn(len(b) + 1)
			b = b[:at] + []string{" ", "(", ")", "\"", "\\", "{", "\r\n", "\r", "a", "\x00", "é"}[r.Intn(11)] + b[at:]
		}
		if r.Intn(4) == 0 {
			at := r.Intn(len(b) + 1)
			b = b[:at] + b[min(len(b), at+1+r.Intn(3)):]
		}
		if wantTokensAsPlain(t, b) {
			right++
		} else {
			wrong++
		}
	}
	if right < 5000 || wrong < 5000 {
		t.Error("nearly nothing was right, or nearly nothing wrong:", right, wrong)
	}
}

// randomRaws answers tokens as they stand, with ( and ) that are pairs; sometimes a few too many.
func randomRaws(r *rand.Rand) []string {
	n := r.Intn(12)
	if r.Intn(20) == 0 {
		n = 190 + r.Intn(20)
	}
	var raws []string
	for open := 0; len(raws) < n || open > 0; {
		switch k := r.Intn(6); {
		case len(raws) >= n || open > 0 && k == 0:
			raws, open = append(raws, ")"), open-1
		case k == 1:
			raws, open = append(raws, "("), open+1
		case k == 2:
			raws = append(raws, `"`+strings.NewReplacer(`"`, `\"`, `\`, `\\`).Replace(randomBytes(r))+`"`)
		case k == 3:
			b := randomBytes(r)
			raws = append(raws, "{"+strconv.Itoa(len(b))+"}\r\n"+b)
		default:
			raws = append(raws, []string{"a", "FETCH", "1:*", "BODY[]", "\\Seen", "}", "*", "a1", ";'"}[r.Intn(9)])
		}
	}
	return raws
}

func randomBytes(r *rand.Rand) string {
	var b strings.Builder
	for range r.Intn(6) {
		b.WriteString([]string{"a", "b c", " ", "(", ")", "\"", "\\", "\r", "\n", "\r\n", "{1}", "\xff", "é", "\x00"}[r.Intn(14)])
	}
	return b.String()
}

// A command's bytes, as Feed tells them, are the tokens that it was made of.
func TestTokensOfWhatIsFed(t *testing.T) {
	r := rand.New(rand.NewSource(153))
	some := 0
	for range 2000 {
		b := together(randomRaws(r))
		want, ok := plainTokens(b)
		if !ok {
			continue
		}
		units, waits := fed(piecesOf(b+"\r\n", 1+r.Intn(20))...)
		last := len(units) - 1
		for i, u := range units {
			if u != asked && i < last {
				t.Errorf("%.120q: %.200q", b, units)
			}
		}
		// An atom or a text that ends a line with { digits } can't be: a { is of no atom, and a quote ends a text.
		if waits || last < 0 || units[last] != command(b) {
			t.Errorf("%.120q: %.200q, %v", b, units, waits)
			continue
		}
		wantTokens(t, string(units[last][1:]), want...)
		some++
	}
	if some < 500 {
		t.Error("nearly nothing was right:", some)
	}
}

// R1: it ends, not only after an age.
func TestTokensEnd(t *testing.T) {
	since := time.Now()
	for _, s := range []string{"(", ")", "()", "() ", "\"", "\"\" ", "a ", " ", "{", "{0}\r\n", "{0}\r\n ", "{1}", "\r\n", "\"\\", "(a "} {
		wantNoTokens(t, strings.Repeat(s, 1<<22/len(s)))
	}
	wantNoTokens(t, "\""+strings.Repeat("\\\"", 1<<22))
	wantNoTokens(t, "{999999}\r\n"+x(999998))
	wantTokens(t, "{999999}\r\n"+x(999999), text(x(999999)))
	wantTokens(t, "\""+strings.Repeat(" ", 1<<22)+"\"", text(strings.Repeat(" ", 1<<22)))
	wantTokens(t, x(1<<22), atom(x(1<<22)))
	if took := time.Since(since); took > time.Minute {
		t.Error("it took", took)
	}
}

// R3: what is handed in stays as it is, spare room too, and an answer is new memory.
func TestTokensMemory(t *testing.T) {
	const all = "a (\"b \\\" c\" {3}\r\nd e) f, and spare room"
	whole := []byte(all)
	b := whole[:len(all)-len(", and spare room")]
	for n := range len(b) + 1 {
		lex.Tokens(whole[:n])
	}
	first, _ := lex.Tokens(b)
	second, _ := lex.Tokens(b)
	if string(whole) != all {
		t.Errorf("what was handed in, or spare room of it, was changed: %q", whole)
	}
	clear(first[:cap(first)])
	clear(whole)
	want := []lex.Token{atom("a"), opening(), text("b \" c"), text("d e"), closing(), atom("f")}
	if !slices.Equal(second, want) {
		t.Errorf("an answer shares memory: %v", second)
	}
	if !bytes.Equal(whole, make([]byte, len(whole))) {
		t.Errorf("what was handed in was changed behind the call: %q", whole)
	}
}

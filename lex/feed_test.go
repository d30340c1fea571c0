package lex_test

import (
	"bytes"
	"math/rand"
	"slices"
	"strconv"
	"strings"
	"testing"
	"time"

	"cubby/lex"
)

func x(n int) string { return strings.Repeat("x", n) }

// P15.1: Feed

func TestFeedOfCommands(t *testing.T) {
	wantFeed(t, "")
	wantFeed(t, "A1 NOOP")
	wantFeed(t, "A1 NOOP\r")
	wantFeed(t, "A1 NOOP\r\n", command("A1 NOOP"))
	wantFeed(t, "A1 NOOP\r\nA2 LOGOUT\r\n", command("A1 NOOP"), command("A2 LOGOUT"))
	wantFeed(t, "A1 NOOP\r\nA2 LOG", command("A1 NOOP"))
	wantFeed(t, "\r\n", command(""))
	wantFeed(t, "\r\n\r\n \r\n", command(""), command(""), command(" "))
	wantFeed(t, "é \x00\xff\x7f\t\r\n", command("é \x00\xff\x7f\t"))
	wantFeed(t, "a LOGIN \"x (\r\n", command("a LOGIN \"x ("))
}

// A line ends with both, one behind the other, and with nothing else.
func TestFeedOfEnds(t *testing.T) {
	wantFeed(t, "a\nb\r\n", command("a\nb"))
	wantFeed(t, "a\rb\r\n", command("a\rb"))
	wantFeed(t, "\n\r\n", command("\n"))
	wantFeed(t, "\r\r\n", command("\r"))
	wantFeed(t, "\r\r\r\n\n\r\n", command("\r\r"), command("\n"))
	wantFeed(t, "a\n\rb\r\n", command("a\n\rb"))
	wantFeed(t, "a\r \nb\r\n", command("a\r \nb"))
	wantFeed(t, "\n")
	wantFeed(t, "\n\n\n\r")
	wantFeed(t, "\r\n\n\r\n", command(""), command("\n"))
	wantFeed(t, "a\u0085b\u2028c\v\f\r\n", command("a\u0085b\u2028c\v\f"))
}

func TestFeedOfLiterals(t *testing.T) {
	wantFeed(t, "a {3}\r\nxyz\r\n", asked, command("a {3}\r\nxyz"))
	wantFeed(t, "a {3}\r\nxyz b\r\n", asked, command("a {3}\r\nxyz b"))
	wantFeed(t, "a {0}\r\n\r\n", asked, command("a {0}\r\n"))
	wantFeed(t, "a {0}\r\n b\r\n", asked, command("a {0}\r\n b"))
	wantFeed(t, "{1}\r\na{1}\r\nb{0}\r\n{2}\r\ncd\r\n", asked, asked, asked, asked, command("{1}\r\na{1}\r\nb{0}\r\n{2}\r\ncd"))
	wantFeed(t, "a {2}\r\n\r\n\r\n", asked, command("a {2}\r\n\r\n"))
	wantFeed(t, "a {11}\r\nb NOOP\r\nc {\r\nd\r\n", asked, command("a {11}\r\nb NOOP\r\nc {"), command("d"))
	wantFeed(t, "a {5}\r\n{3}\r\n\r\nb\r\n", asked, command("a {5}\r\n{3}\r\n"), command("b"))
	wantFeed(t, "a \"{2}\r\n\"\"\"\r\n", asked, command("a \"{2}\r\n\"\"\""))
	wantFeed(t, "a {4}\r\n\x00\xff\n\r\r\n", asked, command("a {4}\r\n\x00\xff\n\r"))
	for _, n := range []string{"1", "01", "001", "0001", "00001", "000001"} {
		wantFeed(t, "a{"+n+"}\r\nb\r\n", asked, command("a{"+n+"}\r\nb"))
	}
	for _, n := range []string{"0", "00", "000000"} {
		wantFeed(t, "a {"+n+"}\r\n\r\n", asked, command("a {"+n+"}\r\n"))
	}
}

// What isn't just { digits } at a line's very end asks for nothing.
func TestFeedOfNoLiterals(t *testing.T) {
	for _, s := range []string{
		"{}", "{", "}", "{1", "1}", "{1} ", "{1}.", "{1}}", "{{1}}", "{ 1}", "{1 }", "{1 2}", "{+1}", "{-1}", "{1+}", "{1-}", "{1.0}", "{0x1}", "{a}", "{1a}", "{1_0}", "(1)", "[1]", "}1{", "{1{}", "{1}\t", "{1}\"",
		"{1}\r", "{1}\n", "{1\r}", "{\n1}", "{\r\r}", "{1}{", "{1}{}", "{0000000}", "{0000001}", "{1234567}", "{9999999}", "{" + strings.Repeat("0", 100) + "1}", "{１}", "{٣}", "{²}", "{1\x00}", "{\xff}", "{9999999999999999999999}", "{18446744073709551617}",
	} {
		wantFeed(t, s+"\r\nb\r\n", command(s), command("b"))
		wantFeed(t, "a "+s+"\r\nb\r\n", command("a "+s), command("b"))
	}
	for _, s := range []string{"{{1}", "{}{1}", "{1}{1}", "1}{1}", "{a{1}", "}{1}", "{1} {1}", "{1234567{1}", "\xff{1}", "\r{1}", "\n{1}", "\"{1}", "{0000000{000001}"} {
		wantFeed(t, s+"\r\nb\r\n", asked, command(s+"\r\nb"))
	}
}

// A line begins anew behind a literal: what ends the literal is of no line's end, and of no { digits }.
func TestFeedAcrossTheEndsOfLiterals(t *testing.T) {
	wantFeed(t, "a {1}\r\n\r\n\r\n", asked, command("a {1}\r\n\r\n"))
	wantFeed(t, "a {1}\r\n\r\n \r\nb\r\n", asked, command("a {1}\r\n\r\n "), command("b"))
	wantFeed(t, "a {1}\r\n\r\nb", asked)
	wantFeed(t, "a {3}\r\n{20}\r\n", asked, command("a {3}\r\n{20}"))
	wantFeed(t, "a {2}\r\n{1}\r\n", asked, command("a {2}\r\n{1}"))
	wantFeed(t, "a {1}\r\n{1}\r\n", asked, command("a {1}\r\n{1}"))
	wantFeed(t, "a {3}\r\n{1}\r\n", asked, command("a {3}\r\n{1}"))
	wantFeed(t, "a {0}\r\n\n\r\n", asked, command("a {0}\r\n\n"))
	wantFeed(t, "a {0}\r\n{0}\r\n{0}\r\n\r\n", asked, asked, asked, command("a {0}\r\n{0}\r\n{0}\r\n"))
}

func TestFeedOfLinesAtTheEdge(t *testing.T) {
	for n := 1990; n <= 2010; n++ {
		for _, end := range []string{"", "\r", "\n", "\n\r", " {7}x"} {
			line := x(n-len(end)) + end
			if n > 2000 {
				wantFeed(t, line+"\r\nb\r\n", longLine(x(100)), command("b"))
			} else {
				wantFeed(t, line+"\r\nb\r\n", command(line), command("b"))
			}
		}
		line := x(n-3) + "{1}"
		if n > 2000 {
			wantFeed(t, line+"\r\nb\r\n", longLine(x(100)), command("b"))
		} else {
			wantFeed(t, line+"\r\nb\r\n", asked, command(line+"\r\nb"))
		}
	}
	wantFeed(t, x(2001))
	wantFeed(t, x(2001)+"\r")
	wantFeed(t, x(2001)+"\r\r")
	wantFeed(t, x(2001)+"\n")
	wantFeed(t, x(2000)+"\r\r\n", longLine(x(100)))
	wantFeed(t, x(1999)+"\r\r\n", command(x(1999)+"\r"))
	wantFeed(t, x(5000)+"\n\r"+x(5000)+"\r\n\r\n", longLine(x(100)), command(""))
}

// Each line is asked for itself, and what a literal has isn't of a line.
func TestFeedOfSeveralLinesAtTheEdge(t *testing.T) {
	full := x(1996) + " {2}"
	wantFeed(t, full+"\r\nab"+x(2000)+"\r\n", asked, command(full+"\r\nab"+x(2000)))
	wantFeed(t, full+"\r\nab"+full+"\r\ncd"+full+"\r\nef\r\n", asked, asked, asked, command(full+"\r\nab"+full+"\r\ncd"+full+"\r\nef"))
	wantFeed(t, full+"\r\nab"+x(2001)+"\r\nb\r\n", asked, longLine(x(100)), command("b"))
	wantFeed(t, "a {3}\r\nxyz"+x(2001)+"\r\nb\r\n", asked, longLine("a {3}\r\nxyz"+x(90)), command("b"))
	wantFeed(t, "a {0}\r\n"+x(2001)+"\r\n", asked, longLine("a {0}\r\n"+x(93)))
	wantFeed(t, "a {2001}\r\n"+x(2001)+"\r\n", asked, command("a {2001}\r\n"+x(2001)))
	wantFeed(t, "a {1}\r\nb {20000}\r\n"+x(20000)+x(2000)+"\r\n", asked, asked, command("a {1}\r\nb {20000}\r\n"+x(22000)))
	wantFeed(t, "a {1}\r\nb {20000}\r\n"+x(20000)+x(2001)+"\r\n", asked, asked, longLine("a {1}\r\nb {20000}\r\n"+x(82)))
}

func TestFeedOfLiteralsAtTheEdge(t *testing.T) {
	for _, n := range []int{19999, 20000} {
		line := "a {" + strconv.Itoa(n) + "}\r\n"
		wantFeed(t, line+x(n)+"\r\n", asked, command(line+x(n)))
		wantFeed(t, line+x(n-1)+"\r\n\r\n", asked, command(line+x(n-1)+"\r\n"))
	}
	wantFeed(t, "a {020000}\r\n"+x(20000)+"\r\n", asked, command("a {020000}\r\n"+x(20000)))
	for _, n := range []string{"20001", "020001", "20002", "65536", "99999", "100000", "999999"} {
		wantFeed(t, "a {"+n+"}\r\nb\r\n", longLiteral("a {"+n+"}"), command("b"))
		wantFeed(t, "a {2}\r\nxy {"+n+"}\r\nb {1}\r\n\n\r\n", asked, longLiteral("a {2}\r\nxy {"+n+"}"), asked, command("b {1}\r\n\n"))
	}
	wantFeed(t, "a {1000000}\r\nb\r\n", command("a {1000000}"), command("b"))
}

// Where both are true, the line is too long: it is named first.
func TestFeedOfLongLinesThatAskForLongLiterals(t *testing.T) {
	for n := 1998; n <= 2003; n++ {
		line := x(n-7) + "{20001}"
		if n > 2000 {
			wantFeed(t, line+"\r\nb\r\n", longLine(x(100)), command("b"))
		} else {
			wantFeed(t, line+"\r\nb\r\n", longLiteral(x(100)), command("b"))
		}
	}
}

func TestFeedTellsTheBeginningOfWhatIsRefused(t *testing.T) {
	digits := strings.Repeat("0123456789", 11)
	for n := 80; n <= 110; n++ {
		line := digits[:n] + "{20001}"
		wantFeed(t, line+"\r\n", longLiteral(line[:min(100, n+7)]))
		wantFeed(t, digits[:n]+x(2000)+"\r\n", longLine((digits[:n] + x(100))[:100]))
		// Its lines' ends and its literals, too.
		line = "{" + strconv.Itoa(n) + "}\r\n" + digits[:n] + " {30000}"
		wantFeed(t, line+"\r\n", asked, longLiteral(plainFirst(line)))
		wantFeed(t, line[:len(line)-7]+x(3000)+"\r\n", asked, longLine((line[:len(line)-7] + x(100))[:100]))
	}
	wantFeed(t, "t {1}\r\n\r\n\r\n{99999}\r\n", asked, command("t {1}\r\n\r\n"), longLiteral("{99999}"))
	wantFeed(t, "t {4}\r\na\r\nb{99999}\r\n", asked, longLiteral("t {4}\r\na\r\nb{99999}"))
}

// What stands behind the end of what is refused is new: no literal of it comes.
func TestFeedBehindWhatIsRefused(t *testing.T) {
	wantFeed(t, x(2001)+"{3}\r\nb {1}\r\n\r\n\r\n", longLine(x(100)), asked, command("b {1}\r\n\r\n"))
	wantFeed(t, "{20001}\r\n{20002}\r\n"+x(3000)+"\r\n"+x(2000)+"\r\n\r\n", longLiteral("{20001}"), longLiteral("{20002}"), longLine(x(100)), command(x(2000)), command(""))
	var c lex.Chunk
	for range 50 {
		c.Feed([]byte(x(2000)))
	}
	if l := toldOf(c.Feed([]byte("\r\na\r\n"))); !slices.Equal(l, []told{longLine(x(100)), command("a")}) {
		t.Errorf("%.200q", l)
	}
}

// P15.1: Waits, and at which byte each unit is told.
func TestFeedByteByByte(t *testing.T) {
	for _, b := range []string{
		"A1 NOOP\r\n\r\n",
		"a {3}\r\nxyz b {0}\r\n {1}\r\n\n\r\nc\r\n",
		"a {12}\r\n{3}\r\n\r\n{3}\r\n\r\r\n",
		"a {20001}\r\nb {1234567}\r\n{4}\r\n{1}\r\n",
		"\r\r\n\n\r\n",
		"a {25}\r\nTo: b\r\n\r\nGood morning.\r\n FLAGS\r\nb\r\n",
		x(1990) + " {3}\r\nabc" + x(1990) + "\r\n",
		x(1998) + "\r\r\n\r\n" + x(1999) + "\r\r\n\r\n",
		"a {1}\r\nb" + x(2001) + "\r\rb{3}\r\nc\r\n",
	} {
		wantEachByte(t, b)
	}
}

func TestWaits(t *testing.T) {
	var c lex.Chunk
	for _, p := range []struct {
		b     string
		waits bool
	}{{"", false}, {"a {5}", false}, {"\r", false}, {"\n", true}, {"", true}, {"abcd", true}, {"e", false}, {"", false}, {"{0}\r\n", false}, {"{1}\r\n", true}, {"\r", false}, {"\n\r\n", false}, {"b {20000}\r\n", true}, {x(19999), true}, {"x", false}, {" {20001}\r\n", false}} {
		c.Feed([]byte(p.b))
		for range 2 {
			if c.Waits() != p.waits {
				t.Errorf("behind %.20q: %v", p.b, !p.waits)
			}
		}
	}
}

// P15.3

func TestFeedWithEachByteAtEachPlace(t *testing.T) {
	for _, b := range []string{"a {2}\r\nxy b\r\n\r\n", "\r\n", "{0}\r\n{3}\r\n\r\n\r\r\n"} {
		for i := range len(b) + 1 {
			for c := range 256 {
				wantFeedAsPlain(t, b[:i]+string([]byte{byte(c)})+b[i:])
				if i < len(b) {
					wantFeedAsPlain(t, b[:i]+string([]byte{byte(c)})+b[i+1:])
				}
			}
		}
	}
}

// All that are of up to 6 of these, in all pieces.
func TestFeedOfAllThatAreShort(t *testing.T) {
	pieces := []string{"a", "\r", "\n", "\r\n", "{", "}", "1", "{1}"}
	all, asking := []string{""}, 0
	for range 6 {
		var longer []string
		for _, b := range all {
			for _, p := range pieces {
				longer = append(longer, b+p)
			}
		}
		for _, b := range longer {
			want, waits := plainFeed(b)
			for at := range len(b) {
				wantPieces(t, want, waits, b[:at], b[at:])
			}
			if slices.Contains(want, asked) {
				asking++
			}
		}
		all = longer
	}
	if asking < 1000 {
		t.Error("nearly nothing asked for a literal:", asking)
	}
}

func TestFeedAtRandom(t *testing.T) {
	pieces := []string{"a", "NOOP", " ", "\r", "\n", "\r\n", "\r\n", "{", "}", "{3}", "{0}\r\n", "{1}\r\n", "{2}\r\n", "{17}\r\n", "{300}\r\n", "{20001}\r\n", "{1234567}\r\n", "\"", "\\", "(", ")", "\x00", "é", "\xff", x(500), x(1000), x(1990), x(2000), x(2001)}
	r := rand.New(rand.NewSource(15))
	var kinds [5]int
	for range 2500 {
		var b strings.Builder
		for range r.Intn(40) {
			b.WriteString(pieces[r.Intn(len(pieces))])
		}
		want, waits := plainFeed(b.String())
		for _, u := range want {
			kinds[u[0]-'0']++
		}
		wantPieces(t, want, waits, b.String())
		for range 5 {
			wantPieces(t, want, waits, randomPieces(r, b.String())...)
		}
	}
	for kind := 1; kind <= 4; kind++ {
		if kinds[kind] < 500 {
			t.Error("nearly none of the kind", kind, kinds[kind])
		}
	}
}

func randomPieces(r *rand.Rand, b string) []string {
	most := 1 << r.Intn(12)
	var pieces []string
	for b != "" {
		n := min(len(b), r.Intn(most+1))
		pieces = append(pieces, b[:n])
		b = b[n:]
	}
	return pieces
}

// R1: a nil one tells nothing.
func TestFeedOfNil(t *testing.T) {
	var c *lex.Chunk
	for _, b := range []string{"", "a\r\n", "a {3}\r\n", x(3000) + "\r\n"} {
		if l := c.Feed([]byte(b)); len(l) != 0 || c.Waits() {
			t.Error("a nil one tells", l, c.Waits())
		}
	}
	c = new(lex.Chunk)
	if l := c.Feed(nil); len(l) != 0 || c.Waits() {
		t.Error("nothing completes", l)
	}
}

// R1: it ends, not only after an age.
func TestFeedEnds(t *testing.T) {
	since := time.Now()
	for _, s := range []string{"x", "\r", "\n", "\n\r", "\r\n", "{0}\r\n", "{20000}\r\n", "{20001}\r\n", "{", "{1", "x\n", "a {3}\r\nabc\r\n"} {
		b := bytes.Repeat([]byte(s), 1<<22/len(s))
		var whole, cut lex.Chunk
		n := len(whole.Feed(b))
		m := 0
		for piece := range slices.Chunk(b, 3) {
			m += len(cut.Feed(piece))
		}
		if n != m || whole.Waits() != cut.Waits() {
			t.Errorf("many %q: %d, %v, but in pieces %d, %v", s, n, whole.Waits(), m, cut.Waits())
		}
	}
	if took := time.Since(since); took > time.Minute {
		t.Error("it took", took)
	}
}

// A command of many literals is told whole.
func TestFeedOfMuch(t *testing.T) {
	one := " {20000}\r\n" + x(20000)
	b := "a" + strings.Repeat(one, 300)
	var c lex.Chunk
	var units []told
	for piece := range slices.Chunk([]byte(b+"\r\n"), 1000) {
		units = append(units, toldOf(c.Feed(piece))...)
	}
	if len(units) != 301 || units[299] != asked || units[300] != command(b) {
		t.Errorf("%d units", len(units))
	}
}

// What is refused isn't kept, however long it goes on.
func TestFeedKeepsNoLongLine(t *testing.T) {
	for _, piece := range []string{x(1 << 16), strings.Repeat("\n", 1<<16), strings.Repeat("\rx\n", 1<<14), "x\r"} {
		var c lex.Chunk
		c.Feed([]byte(x(5000)))
		b := []byte(piece)
		if some := testing.AllocsPerRun(100, func() { c.Feed(b) }); some > 0 {
			t.Errorf("Feed of more %.4q of a line that is too long: memory was asked for %v times", piece, some)
		}
		if l := toldOf(c.Feed([]byte("x\r\nb\r\n"))); !slices.Equal(l, []told{longLine(x(100)), command("b")}) {
			t.Errorf("behind it %.200q", l)
		}
	}
}

// R3: what is handed in stays as it is, spare room too, and isn't kept.
func TestFeedLeavesWhatItIsGiven(t *testing.T) {
	const all = "a {3}\r\nxyz b\r\nc {20001}\r\nd {5}\r\nab, and spare room"
	for n := range len(all) {
		whole := []byte(all)
		b := whole[:n]
		var c lex.Chunk
		units := c.Feed(b)
		if string(whole) != all {
			t.Fatalf("what was handed in, or spare room of it, was changed: %q", whole)
		}
		clear(whole)
		want, _ := plainFeed(all[:n])
		if !slices.Equal(toldOf(units), want) {
			t.Errorf("an answer shares memory with what was handed in: %.200q", toldOf(units))
		}
		rest := all[n:] + "\r\n\r\n\r\n"
		want, _ = plainFeed(all[:n] + rest)
		if got := append(toldOf(units), toldOf(c.Feed([]byte(rest)))...); !slices.Equal(got, want) {
			t.Errorf("what was handed in was kept: %.200q, want %.200q", got, want)
		}
	}
}

// R3: an answer is new memory, spare room too: what becomes of it changes nothing.
func TestFeedAnswersNewMemory(t *testing.T) {
	const b = "a {3}\r\nxyz b\r\nc\r\n {20001}\r\nd {1}\r\ne {20002}\r\n"
	var c lex.Chunk
	for range 3 {
		units := c.Feed([]byte(b))
		want, _ := plainFeed(b)
		for i, u := range units {
			if got := toldOf(units[i:]); !slices.Equal(got, want[i:]) {
				t.Errorf("answers share memory: %.200q, want %.200q", got, want[i:])
			}
			room := u.B[:cap(u.B)]
			for i := range room {
				room[i] = 'Z'
			}
		}
		clear(units[:cap(units)])
	}
}

// R2: a copy of a chunk has its history, and goes its own way from there.
func TestFeedOfCopies(t *testing.T) {
	const b = "a {12}\r\nb NOOP\r\nc {\r\nd {20001}\r\ne\r\n"
	for n := range len(b) {
		for _, other := range []string{"ZZZZ", "Z\r\n", "\n\r\n", "\r\n\r\n", strings.Repeat("{1}\r\nZ", 10), x(3000) + "\r\n", x(20000) + "\r\n\r\n"} {
			wantCopiesApart(t, b[:n], other, b[n:])
		}
	}
}

// wantCopiesApart holds what a chunk tells, of which two copies, to which something else comes, were made meanwhile.
func wantCopiesApart(t *testing.T, begin, other, end string) {
	t.Helper()
	var c lex.Chunk
	begun := toldOf(c.Feed([]byte(begin)))
	one, two := c, c
	units := append(one.Feed([]byte(other)), two.Feed([]byte(other))...)
	got := toldOf(units)
	for _, u := range units {
		clear(u.B)
	}
	if want, _ := fed(begin, other); !slices.Equal(append(slices.Clone(begun), got[:len(got)/2]...), want) || !slices.Equal(got[:len(got)/2], got[len(got)/2:]) {
		t.Errorf("behind %q two copies tell %.200q, want %.200q", begin, got, want)
	}
	if want, _ := plainFeed(begin + end); !slices.Equal(append(begun, toldOf(c.Feed([]byte(end)))...), want) {
		t.Errorf("copies behind %q to which %.20q came changed the chunk, want %.200q", begin, other, want)
	}
}

// R2: two chunks have nothing in common.
func TestFeedOfTwo(t *testing.T) {
	var one, two lex.Chunk
	one.Feed([]byte("a {3}\r\n"))
	if l := toldOf(two.Feed([]byte("b\r\n"))); !slices.Equal(l, []told{command("b")}) || two.Waits() {
		t.Errorf("%.200q", l)
	}
	if l := toldOf(one.Feed([]byte("b\r\n\r\n"))); !slices.Equal(l, []told{command("a {3}\r\nb\r\n")}) {
		t.Errorf("%.200q", l)
	}
}

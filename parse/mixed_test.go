package parse_test

import (
	"bytes"
	"math/rand"
	"slices"
	"strings"
	"testing"
	"time"

	"cubby/lex"
	"cubby/parse"
	"cubby/seqset"
)

// rows answers right commands, each as its tokens.
func rows() [][]string {
	at := "\"17-Jul-1996 02:44:25 -0700\""
	rows := [][]string{
		{"a", "NOOP"}, {"a", "Idle"}, {"a1", "expunge"}, {"a", "LOGIN", "ann", "\"n \\\"\""}, {"a", "login", literal("x"), "y"},
		{"a", "SELECT", "inbox"}, {"a", "Examine", "\"a/b\""}, {"a", "CREATE", literal("x")}, {"a", "STATUS", "x"}, {"a", "LIST", "\"\"", "*"}, {"a", "list", "a/", literal("%")},
		{"a", "APPEND", "x", "\"hi\""}, {"a", "APPEND", "x", "(", ")", "\"hi\""}, {"a", "append", "x", at, literal("hi")}, {"a", "APPEND", "Inbox", "(", "\\Seen", "\\Draft", ")", at, literal("a\r\n")},
	}
	for _, uid := range []bool{false, true} {
		for _, row := range [][]string{
			{"FETCH", "1", "FLAGS"}, {"fetch", "1:*,3", "(", "UID", "BODY.PEEK[]", "body[text]", ")"},
			{"STORE", "2", "FLAGS", "(", ")"}, {"STORE", "2", "-flags.silent", "(", "\\Deleted", "\\Seen", ")"},
			{"COPY", "2", "x"}, {"COPY", "2:1", "\"inbox\""}, {"SEARCH", "ALL"}, {"SEARCH", "NOT", "(", "SEEN", ")", "\"x\""},
		} {
			if uid {
				row = append([]string{"uid"}, row...)
			}
			rows = append(rows, append([]string{"a"}, row...))
		}
	}
	return append(rows, []string{"a", "UID", "EXPUNGE", "4"})
}

// others answers what may stand in another's place.
func others() []string {
	return []string{
		"a", "x", "1", "1:*", "0", "*", "NOOP", "UID", "EXPUNGE", "FETCH", "SEARCH", "STORE", "SELECT", "FLAGS", "+FLAGS", "BODY[]", "BODY.PEEK[TEXT]", "\\Seen", "\\Foo", "a/b", "a//b", "ALL", "aaaaaaaaaaaaaaaaaaaaa",
		"\"\"", "\"x\"", "\"1\"", "\"FLAGS\"", "\"NOOP\"", "\"\\\\Seen\"", "\" 1-Jan-1970 00:00:05 +0000\"", "\"bad date\"", literal("x"), literal(""), literal("inbox"), literal("(\r\n"),
		"(", ")", "()", "(x)", "(UID)", "(\\Seen)", "",
	}
}

// Each token of each command left away, or with another one in its place, ahead of it or behind.
func TestParseOfEachTokenAnother(t *testing.T) {
	right, wrong := 0, 0
	try := func(raws ...[]string) {
		if wantAsPlain(t, together(slices.Concat(raws...))) {
			right++
		} else {
			wrong++
		}
	}
	for _, row := range rows() {
		if !wantAsPlain(t, together(row)) {
			t.Errorf("%q is no command", row)
		}
		for i := range len(row) + 1 {
			try(row[:i])
			try(row[i:])
			for _, other := range others() {
				try(row[:i], []string{other}, row[i:])
				if i < len(row) {
					try(row[:i], []string{other}, row[i+1:])
				}
			}
			for j := i + 1; j <= len(row); j++ {
				// Some left away, and some twice.
				try(row[:i], row[j:])
				try(row[:j], row[i:])
			}
		}
	}
	if right < 500 || wrong < 5000 {
		t.Error("nearly nothing was right, or nearly nothing wrong:", right, wrong)
	}
}

func TestParseOfEachByteAtEachPlace(t *testing.T) {
	for _, row := range rows() {
		b := together(row)
		for i := range len(b) + 1 {
			for c := range 256 {
				by := string([]byte{byte(c)})
				wantAsPlain(t, b[:i]+by+b[i:])
				if i < len(b) {
					wantAsPlain(t, b[:i]+by+b[i+1:])
				}
			}
			wantAsPlain(t, b[:i])
			wantAsPlain(t, b[i:])
		}
	}
}

func TestParseAtRandom(t *testing.T) {
	r := rand.New(rand.NewSource(160))
	all := rows()
	right, wrong := 0, 0
	for range 60000 {
		row := slices.Clone(all[r.Intn(len(all))])
		for range r.Intn(3) {
			i := r.Intn(len(row))
			other := others()[r.Intn(len(others()))]
			if r.Intn(2) == 0 {
				other = all[r.Intn(len(all))][1]
			}
			switch r.Intn(4) {
			case 0:
				row[i] = other
			case 1:
				row = slices.Insert(row, i, other)
			case 2:
				row = append(row[:i], append([]string{row[r.Intn(len(row))]}, row[i:]...)...)
			default:
				row[i] = inLetters(row[i])[r.Intn(4)]
			}
		}
		if wantAsPlain(t, together(row)) {
			right++
		} else {
			wrong++
		}
	}
	if right < 5000 || wrong < 5000 {
		t.Error("nearly nothing was right, or nearly nothing wrong:", right, wrong)
	}
}

func TestParseAtRandomOfBytes(t *testing.T) {
	r := rand.New(rand.NewSource(162))
	for range 20000 {
		b := make([]byte, r.Intn(40))
		for i := range b {
			b[i] = byte(r.Intn(256))
			if r.Intn(2) == 0 {
				b[i] = "a1 ()\"\\{}\r\n*:"[r.Intn(13)]
			}
		}
		wantAsPlain(t, string(b))
	}
}

// A command that layer 15 tells is parsed as it came.
func TestParseOfWhatIsFed(t *testing.T) {
	for _, row := range rows() {
		b := together(row)
		var c lex.Chunk
		var last lex.Unit
		for i := range len(b) + 2 {
			for _, u := range c.Feed([]byte((b + "\r\n")[i : i+1])) {
				last = u
			}
		}
		got, ok := parse.Parse(last.B)
		want, _ := plainParse(b)
		if last.Kind != 1 || !ok || !isSame(got, want) {
			t.Errorf("%q came as %q: %s, %v, want %s", b, last.B, shown(got), ok, shown(want))
		}
	}
}

// R2: what is answered hangs on b alone.
func TestParseTwice(t *testing.T) {
	var once []parse.Command
	for range 3 {
		for i, row := range rows() {
			c, _ := parse.Parse([]byte(together(row)))
			once = append(once, c)
			if !isSame(c, once[i]) {
				t.Errorf("%q: another answer: %s, and first %s", row, shown(c), shown(once[i]))
			}
		}
	}
}

// R1: it ends, not only after an age.
func TestParseEnds(t *testing.T) {
	since := time.Now()
	for _, ahead := range []string{"", "a ", "a NOOP ", "a LOGIN ", "a SELECT ", "a LIST ", "a LIST \"\" ", "a APPEND ", "a APPEND x ", "a APPEND x \"\" ", "a FETCH ", "a FETCH 1 ", "a FETCH 1 (", "a STORE ", "a STORE 1 ", "a STORE 1 FLAGS (", "a COPY ", "a COPY 1 ", "a SEARCH ", "a UID ", "a UID EXPUNGE "} {
		for _, s := range []string{"x", "1", "1,", "*:", "a ", "(", ")", "() ", "\"\" ", "\"", "\\", "{0}\r\n ", "/", "x/", "UID ", "\xff"} {
			b := ahead + strings.Repeat(s, 1<<18/len(s))
			want, is := plainParse(b)
			got, ok := parse.Parse([]byte(b))
			if ok != is || !isSame(got, want) {
				t.Errorf("Parse(%.40q..): %v, want %v", b, ok, is)
			}
			parse.Tag([]byte(b))
		}
	}
	if took := time.Since(since); took > time.Minute {
		t.Error("it took", took)
	}
	for _, b := range [][]byte{nil, {}} {
		if c, ok := parse.Parse(b); ok || !isSame(c, parse.Command{Tag: "*"}) {
			t.Errorf("no bytes: %+v, %v", c, ok)
		}
	}
}

// R3: what is handed in stays as it is, spare room too, and an answer is new memory.
func TestParseMemory(t *testing.T) {
	for _, row := range rows() {
		b := together(row)
		whole := []byte(b + ", and spare room")
		for n := range len(whole) + 1 {
			parse.Parse(whole[:n])
		}
		first, _ := parse.Parse(whole[:len(b)])
		second, _ := parse.Parse(whole[:len(b)])
		if string(whole) != b+", and spare room" {
			t.Errorf("what was handed in, or spare room of it, was changed: %q", whole)
		}
		for i := range first.Octets[:cap(first.Octets)] {
			first.Octets[:cap(first.Octets)][i] = 'z'
		}
		for i := range first.Set[:cap(first.Set)] {
			first.Set[:cap(first.Set)][i] = seqset.Span{From: 77, To: 78}
		}
		for i := range first.Items[:cap(first.Items)] {
			first.Items[:cap(first.Items)][i] = parse.Item{Kind: 79}
		}
		for i := range first.Keys[:cap(first.Keys)] {
			first.Keys[:cap(first.Keys)][i] = lex.Token{Kind: 80}
		}
		clear(whole)
		want, _ := plainParse(b)
		third, _ := parse.Parse([]byte(b))
		if !isSame(second, want) || !isSame(third, want) {
			t.Errorf("an answer shares memory: %s, %s, want %s", shown(second), shown(third), shown(want))
		}
		if !bytes.Equal(whole, make([]byte, len(whole))) {
			t.Errorf("what was handed in was changed behind the call: %q", whole)
		}
	}
}

// Keys' spare room holds nothing of the tokens ahead of them or behind.
func TestParseMemoryOfKeys(t *testing.T) {
	c, _ := parse.Parse([]byte("a SEARCH ALL (SEEN) \"x\""))
	for _, k := range c.Keys[:cap(c.Keys)][len(c.Keys):] {
		if k != (lex.Token{}) {
			t.Error("there is something behind the keys:", k)
		}
	}
}

package fetch_test

import (
	"fmt"
	"math"
	"strings"
	"testing"

	"cubby/api"
	"cubby/lex"
	"cubby/parse"
)

// P18.1: Print

const letter = "Subject: hello\r\nFrom: ann\r\n\r\nGood morning.\r\n"

func TestPrint(t *testing.T) {
	m := of(letter)
	for kind, want := range map[int]string{
		1: "UID 12",
		2: `FLAGS (\Seen \Draft)`,
		3: `INTERNALDATE "17-Jul-1996 09:44:25 +0000"`,
		4: "RFC822.SIZE 44",
		5: `ENVELOPE (NIL "hello" "ann" NIL NIL)`,
		6: "BODY[] {44}\r\n" + letter,
		7: "BODY[HEADER] {29}\r\nSubject: hello\r\nFrom: ann\r\n\r\n",
		8: "BODY[TEXT] {15}\r\nGood morning.\r\n",
	} {
		for _, peek := range []bool{false, true} {
			wantPrint(t, m, []parse.Item{{Kind: kind, Peek: peek}}, "("+want+")")
		}
		wantPrint(t, m, ofKinds(kind, kind), "("+want+" "+want+")")
		wantPrint(t, m, ofKinds(1, kind, 1), "(UID 12 "+want+" UID 12)")
	}
	wantPrint(t, m, ofKinds(4, 2, 1), `(RFC822.SIZE 44 FLAGS (\Seen \Draft) UID 12)`)
	wantPrint(t, m, nil, "()")
	wantPrint(t, m, []parse.Item{}, "()")
	wantPrint(t, api.Msg{}, ofKinds(2), "(FLAGS ())")
}

// What a message doesn't have, or has in no other way.
func TestPrintOfNothing(t *testing.T) {
	for _, octets := range [][]byte{nil, {}} {
		wantPrint(t, api.Msg{Octets: octets}, ofKinds(1, 2, 3, 4, 5, 6, 7, 8), "(UID 0 FLAGS () INTERNALDATE \" 1-Jan-1970 00:00:00 +0000\" RFC822.SIZE 0 "+
			"ENVELOPE (NIL NIL NIL NIL NIL) BODY[] {0}\r\n BODY[HEADER] {0}\r\n BODY[TEXT] {0}\r\n)")
	}
	wantPrint(t, of("\r\n"), ofKinds(6, 7, 8), "(BODY[] {2}\r\n\r\n BODY[HEADER] {2}\r\n\r\n BODY[TEXT] {0}\r\n)")
	wantPrint(t, of("\n\n"), ofKinds(6, 7, 8), "(BODY[] {2}\r\n\n\n BODY[HEADER] {1}\r\n\n BODY[TEXT] {1}\r\n\n)")
	wantPrint(t, of("To: ann"), ofKinds(8, 7), "(BODY[TEXT] {0}\r\n BODY[HEADER] {7}\r\nTo: ann)")
	wantPrint(t, of(`"`), ofKinds(6), "(BODY[] {1}\r\n\")")
}

// UIDs, times, flags and sizes, at their edges and beyond.
func TestPrintAtTheEdges(t *testing.T) {
	for _, uid := range []uint32{0, 1, 9, 10, 99, 100, 1<<31 - 1, 1 << 31, api.MaxUID - 1, api.MaxUID} {
		wantPrint(t, api.Msg{UID: uid}, ofKinds(1), fmt.Sprintf("(UID %d)", uid))
	}
	for at, want := range map[int64]string{
		0: " 1-Jan-1970 00:00:00 +0000", 253402300799: "31-Dec-9999 23:59:59 +0000", 253402300800: "", -1: "", math.MaxInt64: "", math.MinInt64: "",
	} {
		wantPrint(t, api.Msg{Date: at}, ofKinds(3), `(INTERNALDATE "`+want+`")`)
	}
	for flags, want := range map[int]string{
		0: "", 31: `\Seen \Answered \Flagged \Deleted \Draft`, -1: `\Seen \Answered \Flagged \Deleted \Draft`, 32: "", 1 << 40: "", 33: `\Seen`, math.MinInt: "", math.MaxInt - 1: `\Answered \Flagged \Deleted \Draft`,
	} {
		wantPrint(t, api.Msg{Flags: flags}, ofKinds(2), "(FLAGS ("+want+"))")
	}
	for flags := range 64 {
		wantAsPlain(t, api.Msg{Flags: flags}, ofKinds(2, 1, 2))
	}
	for _, n := range []int{0, 1, 9, 10, 99, 100, api.MaxOctets - 1, api.MaxOctets, api.MaxOctets + 1, 1 << 20} {
		octets := strings.Repeat("x", n)
		wantPrint(t, of(octets), ofKinds(4, 6), fmt.Sprintf("(RFC822.SIZE %d BODY[] {%d}\r\n%s)", n, n, octets))
		wantPrint(t, of("\n"+octets), ofKinds(7, 8), fmt.Sprintf("(BODY[HEADER] {1}\r\n\n BODY[TEXT] {%d}\r\n%s)", n, octets))
	}
}

// Of no kind: left out, and without a blank that would stand in their place.
func TestPrintOfNoKind(t *testing.T) {
	for _, kind := range []int{0, 9, 10, -1, -8, 255, 256, 257, 264, 1<<32 + 1, -1<<32 + 1, 1<<40 + 8, math.MaxInt, math.MinInt, math.MinInt + 1} {
		m := of(letter)
		no := parse.Item{Kind: kind}
		peeks := parse.Item{Kind: kind, Peek: true}
		wantPrint(t, m, []parse.Item{no}, "()")
		wantPrint(t, m, []parse.Item{no, peeks, no}, "()")
		wantPrint(t, m, []parse.Item{no, {Kind: 1}}, "(UID 12)")
		wantPrint(t, m, []parse.Item{{Kind: 1}, peeks}, "(UID 12)")
		wantPrint(t, m, []parse.Item{no, {Kind: 1}, no, peeks, {Kind: 4, Peek: true}, no}, "(UID 12 RFC822.SIZE 44)")
		wantMarks(t, []parse.Item{no, peeks}, false)
		wantMarks(t, []parse.Item{no, {Kind: 8}, peeks}, true)
	}
}

// Every byte may stand in what is counted, as it is, and no other kind of end is told for it.
func TestPrintOfEveryByteAtEveryPlace(t *testing.T) {
	const octets = "To: a\r\n\r\nb"
	items := ofKinds(6, 5, 7, 4, 8)
	for at := range len(octets) + 1 {
		for c := range 256 {
			wantAsPlain(t, of(octets[:at]+string([]byte{byte(c)})+octets[at:]), items)
		}
	}
}

// All lists of up to three items.
func TestPrintOfAllShortLists(t *testing.T) {
	m := of("Date: x\r\n\r\n\xff")
	var all []parse.Item
	for kind := range 10 {
		all = append(all, parse.Item{Kind: kind}, parse.Item{Kind: kind, Peek: true})
	}
	for _, a := range all {
		wantAsPlain(t, m, []parse.Item{a})
		for _, b := range all {
			wantAsPlain(t, m, []parse.Item{a, b})
			for _, c := range all {
				wantAsPlain(t, m, []parse.Item{a, b, c})
			}
		}
	}
}

// What layer 16 tells of a command's items is told under the names that stand in it.
func TestPrintOfWhatIsParsed(t *testing.T) {
	c, ok := parse.Parse([]byte("a fetch 1 (uid Flags internaldate rfc822.size envelope body[] body.peek[header] Body[text] body.PEEK[])"))
	if !ok {
		t.Fatal("no command")
	}
	wantPrint(t, of("\n\x80"), c.Items, "(UID 12 FLAGS (\\Seen \\Draft) INTERNALDATE \"17-Jul-1996 09:44:25 +0000\" RFC822.SIZE 2 "+
		"ENVELOPE (NIL NIL NIL NIL NIL) BODY[] {2}\r\n\n\x80 BODY[HEADER] {1}\r\n\n BODY[TEXT] {1}\r\n\x80 BODY[] {2}\r\n\n\x80)")
	for kind := 1; kind <= 8; kind++ {
		c, ok := parse.Parse([]byte("a FETCH 1 " + kinds[kind]))
		if !ok || len(c.Items) != 1 || c.Items[0].Kind != kind {
			t.Errorf("%s: %v, %v", kinds[kind], c.Items, ok)
		}
		s := plainPrint(of(letter), c.Items)
		wantPrint(t, of(letter), c.Items, s)
		if l, ok := lex.Tokens([]byte(s)); !ok || l[1].Text != kinds[kind] {
			t.Errorf("%q: %v, %v", s, l, ok)
		}
	}
}

// P18.1: Marks

func TestMarks(t *testing.T) {
	for kind := -1; kind <= 10; kind++ {
		marks := kind >= 6 && kind <= 8
		wantMarks(t, ofKinds(kind), marks)
		wantMarks(t, []parse.Item{{Kind: kind, Peek: true}}, false)
		wantMarks(t, []parse.Item{{Kind: kind, Peek: true}, {Kind: kind}}, marks)
		wantMarks(t, []parse.Item{{Kind: kind}, {Kind: kind, Peek: true}}, marks)
		wantMarks(t, []parse.Item{{Kind: kind}, {Kind: 6, Peek: true}}, marks)
		wantMarks(t, ofKinds(1, 2, 3, 4, 5, kind, 5, 4, 3, 2, 1, 0), marks)
	}
	wantMarks(t, nil, false)
	wantMarks(t, []parse.Item{}, false)
	wantMarks(t, ofKinds(0, 1, 2, 3, 4, 5, 9), false)
	wantMarks(t, []parse.Item{{Kind: 6, Peek: true}, {Kind: 7, Peek: true}, {Kind: 8, Peek: true}}, false)
}

package fetch_test

import (
	"bytes"
	"math/rand"
	"slices"
	"strings"
	"testing"
	"time"

	"cubby/api"
	"cubby/fetch"
	"cubby/parse"
)

// randomOctets answers octets of fields that an envelope tells, of others, and of bytes of all sorts.
func randomOctets(r *rand.Rand) string {
	parts := []string{
		"Date:", "subject: ", "FROM:\t", "To: ", "message-ID: ", "X: ", "a", "hello", `"`, `\`, " ", "\t", "\r", "\n", "\r\n", "\r\n ", "\r\n\r\n", "\x00", "\xe9", "~", ":", "{3}", "é",
		"Date: x\n", "To: y\r\n", "Message-ID: <1@x>\r\n", "From: \"Ann\" <ann@x>\r\n", "Subject: \xff\n",
	}
	s := ""
	for range r.Intn(12) {
		s += parts[r.Intn(len(parts))]
	}
	return s
}

func randomItems(r *rand.Rand) []parse.Item {
	var items []parse.Item
	for range r.Intn(6) {
		items = append(items, parse.Item{Kind: r.Intn(11) - 1, Peek: r.Intn(2) == 0})
	}
	return items
}

func TestRandomOnes(t *testing.T) {
	r := rand.New(rand.NewSource(18))
	told, marking, inQuotes := 0, 0, 0
	const n = 40000
	for range n {
		m := api.Msg{UID: r.Uint32() >> r.Intn(32), Date: r.Int63() >> r.Intn(63), Flags: r.Intn(64), Octets: []byte(randomOctets(r))}
		items := randomItems(r)
		wantAsPlain(t, m, items)
		if strings.Count(fetch.Envelope(m.Octets), "NIL") < 4 {
			told++
		}
		if fetch.Marks(items) {
			marking++
		}
		if strings.HasPrefix(fetch.String(string(m.Octets)), `"`) {
			inQuotes++
		}
	}
	for _, of := range []int{told, marking, inQuotes} {
		if of < n/20 || of > n-n/20 {
			t.Errorf("of %d: %d with fields, %d that mark, %d in quotes", n, told, marking, inQuotes)
		}
	}
}

// R1: ends, however long what it is given is.
func TestEndsSoon(t *testing.T) {
	done := make(chan bool)
	go func() {
		for _, piece := range []string{"x", `"`, `\`, "\n", "\r", "\r\n", ":", "a:b\n", "To: x\n y\n", "\xff", " ", "\r\n "} {
			s := strings.Repeat(piece, 1<<20/len(piece))
			wantAsPlain(t, of("To: "+s), ofKinds(5, 6, 7, 8, 4))
			wantAsPlain(t, of("x: y\n\n"+s), ofKinds(8, 7, 6, 5))
		}
		wantPrint(t, of(""), slices.Repeat(ofKinds(0), 1<<20), "()")
		wantPrint(t, of(""), slices.Repeat(ofKinds(1), 1<<20), "("+strings.Repeat(" UID 12", 1<<20)[1:]+")")
		wantPrint(t, of(letter), slices.Repeat(ofKinds(5), 1<<15), "("+strings.Repeat(` ENVELOPE (NIL "hello" "ann" NIL NIL)`, 1<<15)[1:]+")")
		wantMarks(t, slices.Repeat([]parse.Item{{Kind: 6, Peek: true}}, 1<<20), false)
		wantMarks(t, append(slices.Repeat(ofKinds(5), 1<<20), parse.Item{Kind: 6}), true)
		close(done)
	}()
	select {
	case <-done:
	case <-time.After(time.Minute):
		t.Fatal("doesn't end")
	}
}

// R2 and R3: asked twice, the same is told, and what was handed in stays as it was, with its spare room.
func TestTwiceAndMemory(t *testing.T) {
	r := rand.New(rand.NewSource(3))
	for range 2000 {
		whole := []byte(randomOctets(r) + "spare room")
		m := of("")
		m.Octets = whole[:len(whole)-len("spare room")]
		items := append(randomItems(r), ofKinds(6, 7, 8, 5)...)
		kept, keptItems := bytes.Clone(whole), slices.Clone(items)
		asked := items[:len(items)-1]
		first, envelope := fetch.Print(m, asked), fetch.Envelope(m.Octets)
		fetch.Marks(asked)
		again, marks := strings.Clone(first), fetch.Marks(asked)
		if !bytes.Equal(whole, kept) || !slices.Equal(items, keptItems) {
			t.Fatalf("%q: what was handed in is changed", kept)
		}
		if fetch.Print(m, asked) != again || fetch.Envelope(m.Octets) != envelope || fetch.Marks(asked) != marks {
			t.Fatalf("%q: another answer", kept)
		}
		was := strings.Clone(envelope)
		for i := range whole {
			whole[i] ^= 0x55
		}
		for i := range items {
			items[i] = parse.Item{Kind: 3}
		}
		if first != again || envelope != was {
			t.Fatalf("%q: an answer that shares memory", kept)
		}
	}
}

package search_test

import (
	"bytes"
	"math/rand"
	"slices"
	"strings"
	"testing"
	"time"

	"cubby/api"
	"cubby/lex"
	"cubby/parse"
	"cubby/search"
)

// lines answers keys of all sorts.
func lines() []string {
	return []string{
		"ALL", "Seen", "UNDRAFT", "SUBJECT hello", "from \"ann\"", "To {3}\r\nbob", "BODY \"\"", "TEXT x", "LARGER 5", "smaller 60", "UID 3:*", "*", "1:3,5",
		"NOT SEEN", "OR SEEN UID 7", "(SEEN DELETED)", "NOT (OR 1 2 NOT 2)", "OR (FROM ann TO bob) NOT (BODY \"world\" LARGER 9) 2:*", "UNSEEN (SMALLER 99) OR NOT 3 ALL", "((1:4) NOT (NOT (SEEN)))", "NOT NOT NOT TEXT hello UID 2:3",
	}
}

// others answers tokens that may stand in another's place.
func others() []lex.Token {
	l := []lex.Token{opening(), closing(), text("ALL"), text("1"), text(""), text("x"), {}, {Kind: 5, Text: "ALL"}}
	for _, s := range []string{"", "ALL", "SEEN", "UNSEEN", "SUBJECT", "BODY", "TEXT", "LARGER", "UID", "NOT", "OR", "1", "2:*", "*", "0", "1234567890", "x", "UN", "(", ")"} {
		l = append(l, atom(s))
	}
	return l
}

// Each token of keys left away, twice there, or with another one in its place, ahead of it or behind.
func TestOfEachTokenAnother(t *testing.T) {
	right, wrong := 0, 0
	try := func(parts ...[]lex.Token) {
		if wantAsPlain(t, some(), slices.Concat(parts...)) {
			right++
		} else {
			wrong++
		}
	}
	for _, line := range lines() {
		l := tokensOf(t, line)
		if !wantAsPlain(t, some(), l) {
			t.Errorf("%q aren't keys", line)
		}
		for i := range len(l) + 1 {
			try(l[:i])
			try(l[i:])
			for j := i + 1; j <= len(l); j++ {
				try(l[i:j])
				try(l[:i], l[j:])
				try(l[:j], l[i:])
			}
			for _, other := range others() {
				try(l[:i], []lex.Token{other}, l[i:])
				if i < len(l) {
					try(l[:i], []lex.Token{other}, l[i+1:])
				}
			}
		}
	}
	if right < 1000 || wrong < 1000 {
		t.Error("nearly nothing was right, or nearly nothing wrong:", right, wrong)
	}
}

// All short lists of tokens.
func TestOfShortLists(t *testing.T) {
	few := []lex.Token{opening(), closing(), atom("NOT"), atom("or"), atom("2"), atom("SEEN"), atom("TEXT"), text("x")}
	var longer func(l []lex.Token, n int)
	longer = func(l []lex.Token, n int) {
		wantAsPlain(t, some(), l)
		for _, token := range few {
			if n > 0 {
				longer(append(slices.Clone(l), token), n-1)
			}
		}
	}
	longer(nil, 5)
}

// randomKeys answers keys that are as deep as that at most, and now and then something else.
func randomKeys(r *rand.Rand, depth int) []lex.Token {
	words := []string{"", "a", "AN", "hello", "x", "o", "\r\n", ": ", "the", "World", "b"}
	word := text(words[r.Intn(len(words))])
	if r.Intn(2) == 0 {
		word.Kind = 1
	}
	n := r.Intn(100)
	switch {
	case depth > 1 && n < 20:
		return slices.Concat([]lex.Token{atom(inLetters("NOT")[r.Intn(4)])}, randomKeys(r, depth-1))
	case depth > 1 && n < 40:
		return slices.Concat([]lex.Token{atom(inLetters("OR")[r.Intn(4)])}, randomKeys(r, depth-1), randomKeys(r, depth-1))
	case depth > 1 && n < 60:
		l := []lex.Token{opening()}
		for range r.Intn(3) + 1 {
			l = append(l, randomKeys(r, depth-1)...)
		}
		return append(l, closing())
	case n < 70:
		flags := []string{"SEEN", "ANSWERED", "FLAGGED", "DELETED", "DRAFT"}
		return []lex.Token{atom([]string{"", "UN"}[r.Intn(2)] + inLetters(flags[r.Intn(5)])[r.Intn(4)])}
	case n < 82:
		names := []string{"SUBJECT", "FROM", "TO", "BODY", "TEXT"}
		return []lex.Token{atom(inLetters(names[r.Intn(5)])[r.Intn(4)]), word}
	case n < 88:
		names, sizes := []string{"LARGER", "SMALLER"}, []string{"0", "1", "5", "30", "000040", "60", "999"}
		return []lex.Token{atom(names[r.Intn(2)]), atom(sizes[r.Intn(len(sizes))])}
	case n < 94:
		return []lex.Token{atom("uid"), atom(sets()[r.Intn(len(sets()))])}
	case n < 99:
		return []lex.Token{atom(sets()[r.Intn(len(sets()))])}
	}
	return []lex.Token{others()[r.Intn(len(others()))]}
}

func randomBox(r *rand.Rand) api.Box {
	b := api.Box{Name: "a", Epoch: 1, Next: 1}
	pieces := []string{"Subject: ", "From:", "TO: ", "x", "hello", "Ann ", "bob", "\r\n", "\r\n\r\n", "\n", " ", "The World", "\xff", ":", "\r"}
	for range r.Intn(9) {
		m := api.Msg{UID: b.Next + uint32(r.Intn(3)), Flags: r.Intn(32)}
		for range r.Intn(12) {
			m.Octets = append(m.Octets, pieces[r.Intn(len(pieces))]...)
		}
		b.Next, b.Msgs = m.UID+1, append(b.Msgs, m)
	}
	return b
}

func TestAtRandom(t *testing.T) {
	r := rand.New(rand.NewSource(170))
	right, wrong, found := 0, 0, 0
	for range 60000 {
		var keys []lex.Token
		for range r.Intn(3) + 1 {
			keys = append(keys, randomKeys(r, r.Intn(12)+1)...)
		}
		b := randomBox(r)
		if !wantAsPlain(t, b, keys) {
			wrong++
			continue
		}
		right++
		if n := len(search.Find(b, keys)); n > 0 && n < len(b.Msgs) {
			found++
		}
	}
	if right < 10000 || wrong < 1000 || found < 5000 {
		t.Error("nearly nothing was right, wrong, or found:", right, wrong, found)
	}
}

// What a command brings is taken as it came.
func TestOfWhatIsParsed(t *testing.T) {
	for _, line := range lines() {
		for _, ahead := range []string{"a SEARCH ", "a uid search "} {
			c, ok := parse.Parse([]byte(ahead + line))
			if !ok || !slices.Equal(c.Keys, tokensOf(t, line)) || !wantAsPlain(t, some(), c.Keys) {
				t.Errorf("%q came as %s, %v", line, shown(c.Keys), ok)
			}
		}
	}
}

// R2: what is answered hangs on the arguments alone.
func TestTwice(t *testing.T) {
	var first [][]int
	for range 3 {
		for i, line := range lines() {
			places := search.Find(some(), tokensOf(t, line))
			search.Find(api.Box{}, tokensOf(t, line))
			first = append(first, places)
			if !slices.Equal(first[i], places) {
				t.Errorf("%q: another answer: %v, and first %v", line, places, first[i])
			}
		}
	}
}

// R1: it ends, not only after an age. What comes very often is told as what comes a few times, but is no less deep.
func TestEnds(t *testing.T) {
	since := time.Now()
	const many, few = 1 << 14, 12
	try := func(ahead, often, behind []lex.Token) {
		want, is := plainFind(some(), slices.Concat(ahead, slices.Repeat(often, few), behind))
		l := slices.Concat(ahead, slices.Repeat(often, many), behind)
		if right, places := search.Right(l), search.Find(some(), l); right != is || !slices.Equal(places, want) {
			t.Errorf("%s: %v, %v, want %v, %v", shown(l), right, places, is, want)
		}
	}
	for _, line := range append(lines(), "NOT", "OR", "OR ALL", "OR NOT", "TEXT", "UID", "BOGUS", "\"\"") {
		often := tokensOf(t, line)
		try(nil, often, nil)
		for _, token := range []lex.Token{opening(), closing(), atom("ALL"), atom("NOT")} {
			try([]lex.Token{token}, often, nil)
			try(nil, often, []lex.Token{token})
		}
		try([]lex.Token{opening()}, often, []lex.Token{closing()})
	}
	for _, often := range [][]lex.Token{{opening()}, {closing()}, {opening(), closing()}, {opening(), atom("ALL")}, {atom("NOT"), opening()}, {atom("OR"), opening()}} {
		try(nil, often, nil)
		try(often, often, []lex.Token{atom("ALL"), closing()})
	}
	for _, name := range []string{"TEXT", "LARGER", "UID"} {
		for _, s := range []string{"x", "1", "1,", "*:", "\xff"} {
			wantAsPlain(t, some(), []lex.Token{atom(name), atom(strings.Repeat(s, many))})
			wantAsPlain(t, some(), []lex.Token{atom(strings.Repeat(s, many))})
		}
	}
	if took := time.Since(since); took > time.Minute {
		t.Error("it took", took)
	}
}

// It goes no deeper than keys may be, so that there is an end to what it stands on, too.
func TestEndsHoweverDeep(t *testing.T) {
	for _, token := range []lex.Token{opening(), atom("NOT"), atom("OR")} {
		wantRefused(t, append(slices.Repeat([]lex.Token{token}, 1<<22), atom("ALL")))
	}
}

// The greatest mailbox there is, and as many keys as a command has.
func TestEndsInTheGreatestMailbox(t *testing.T) {
	since := time.Now()
	for _, octets := range []string{strings.Repeat("x", 20000), strings.Repeat("x\n", 10000), strings.Repeat("X: y\r\n", 3333), strings.Repeat("\n", 20000)} {
		b := boxOf(slices.Repeat([]string{octets}, 500)...)
		for _, key := range []string{"SUBJECT", "FROM", "TO", "BODY", "TEXT"} {
			l := slices.Repeat([]lex.Token{atom("NOT"), atom(key), text(strings.Repeat("x", 100) + "\xff")}, 66)
			if places := search.Find(b, l); len(places) != 500 {
				t.Errorf("%s isn't found in %d", key, len(places))
			}
		}
	}
	if took := time.Since(since); took > time.Minute {
		t.Error("it took", took)
	}
}

// R3: what is handed in stays as it is, spare room too, and an answer is new memory.
func TestMemory(t *testing.T) {
	for _, line := range append(lines(), "NOT", "ALL BOGUS", "TEXT", "(ALL) 0") {
		tokens, b := append(tokensOf(t, line), text("spare"), atom("room")), some()
		b.Msgs = append(b.Msgs, api.Msg{UID: 99, Octets: []byte("Spare Room")})
		for i := range b.Msgs {
			b.Msgs[i].Octets = append(b.Msgs[i].Octets, "SPARE"...)
			b.Msgs[i].Octets = b.Msgs[i].Octets[:len(b.Msgs[i].Octets)-5]
		}
		wereTokens, wereMsgs := slices.Clone(tokens), slices.Clone(b.Msgs)
		for i, m := range wereMsgs {
			wereMsgs[i].Octets = bytes.Clone(m.Octets[:len(m.Octets)+5])
		}
		n := len(b.Msgs) - 1
		b.Msgs = b.Msgs[:n]
		keys := tokens[:len(tokens)-2]
		want, _ := plainFind(b, keys)
		first, second := search.Find(b, keys), search.Find(b, keys)
		search.Right(keys)
		for i := range first[:cap(first)] {
			first[:cap(first)][i] = 77
		}
		if !slices.Equal(tokens, wereTokens) {
			t.Errorf("%q: the tokens that were handed in, or what is behind them, were changed", line)
		}
		for i, m := range b.Msgs[:n+1] {
			if m.UID != wereMsgs[i].UID || m.Flags != wereMsgs[i].Flags || m.Date != wereMsgs[i].Date || !bytes.Equal(m.Octets[:len(m.Octets)+5], wereMsgs[i].Octets) {
				t.Errorf("%q: the messages that were handed in, or what is behind them, were changed", line)
			}
		}
		clear(tokens)
		clear(b.Msgs)
		if !slices.Equal(second, want) {
			t.Errorf("%q: an answer shares memory: %v, want %v", line, second, want)
		}
	}
}

// What comes behind the tokens that are handed in isn't asked for.
func TestOfSpareRoom(t *testing.T) {
	l := tokensOf(t, "NOT (SEEN) SUBJECT x UID 5 ALL")
	for i := range len(l) + 1 {
		wantAsPlain(t, some(), l[:i])
	}
	b := some()
	b.Msgs = b.Msgs[:3]
	wantFound(t, b, "*", 2)
	wantFound(t, b, "UID *", 2)
	wantFound(t, b, "ALL", 0, 1, 2)
}

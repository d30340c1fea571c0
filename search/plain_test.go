package search_test

import (
	"fmt"
	"regexp"
	"slices"
	"strconv"
	"strings"
	"testing"

	"cubby/api"
	"cubby/head"
	"cubby/lex"
	"cubby/search"
)

// The chapter's words, told once more: keys are put together from behind, so that each knows how deep that is which it has,
// and each says of all messages at once which it finds.

// plainPart is a key, or what keys are made of: then its sign says what it is.
type plainPart struct {
	sign   string
	finds  []bool
	height int
}

// plainFind tells by the chapter's words which messages are found, and whether the tokens are keys.
func plainFind(b api.Box, tokens []lex.Token) ([]int, bool) {
	parts, ok := plainParts(b, tokens)
	if !ok {
		return nil, false
	}
	// The key that comes first is the last one of the stack.
	var stack []plainPart
	for _, part := range slices.Backward(parts) {
		switch part.sign {
		case "", ")":
		case "NOT", "OR":
			n := map[string]int{"NOT": 1, "OR": 2}[part.sign]
			if len(stack) < n || stack[len(stack)-1].sign != "" || stack[len(stack)-n].sign != "" {
				return nil, false
			}
			part = plainTogether(part.sign, len(b.Msgs), stack[len(stack)-n:])
			stack = stack[:len(stack)-n]
		case "(":
			n := 0
			for n < len(stack) && stack[len(stack)-1-n].sign == "" {
				n++
			}
			if n == 0 || n == len(stack) {
				return nil, false
			}
			part = plainTogether("AND", len(b.Msgs), stack[len(stack)-n:])
			stack = stack[:len(stack)-n-1]
		}
		stack = append(stack, part)
	}
	return plainPlaces(stack, len(b.Msgs))
}

// plainPlaces answers what the keys find, if they are such, and not too deep.
func plainPlaces(keys []plainPart, count int) ([]int, bool) {
	for _, key := range keys {
		if key.sign != "" || key.height > 10 {
			return nil, false
		}
	}
	if len(keys) == 0 {
		return nil, false
	}
	var places []int
	for place, is := range plainTogether("AND", count, keys).finds {
		if is {
			places = append(places, place)
		}
	}
	return places, true
}

func plainTogether(sign string, count int, keys []plainPart) plainPart {
	all := plainPart{finds: make([]bool, count)}
	for _, key := range keys {
		all.height = max(all.height, key.height+1)
	}
	for place := range count {
		found := 0
		for _, key := range keys {
			if key.finds[place] {
				found++
			}
		}
		all.finds[place] = map[string]bool{"NOT": found == 0, "OR": found > 0, "AND": found == len(keys)}[sign]
	}
	return all
}

// plainParts answers what the keys are made of, in order.
func plainParts(b api.Box, tokens []lex.Token) ([]plainPart, bool) {
	var parts []plainPart
	for len(tokens) > 0 {
		name, sign := "", ""
		switch t := tokens[0]; t.Kind {
		case 1:
			name = plainGreat(t.Text)
		case 3:
			sign = "("
		case 4:
			sign = ")"
		}
		if name == "NOT" || name == "OR" {
			sign = name
		}
		if sign != "" {
			parts, tokens = append(parts, plainPart{sign: sign}), tokens[1:]
			continue
		}
		has, n := plainLeaf(b, name, tokens)
		if n == 0 {
			return nil, false
		}
		part := plainPart{finds: make([]bool, len(b.Msgs)), height: 1}
		for place := range b.Msgs {
			part.finds[place] = has(place)
		}
		parts, tokens = append(parts, part), tokens[n:]
	}
	return parts, true
}

// plainLeaf answers of which messages the key by itself is with which the tokens begin, and of how many tokens it is; none,
// if they don't.
func plainLeaf(b api.Box, name string, tokens []lex.Token) (func(place int) bool, int) {
	var word lex.Token
	if len(tokens) > 1 {
		word = tokens[1]
	}
	octets := func(place int) string { return string(b.Msgs[place].Octets) }
	switch {
	case name == "ALL":
		return func(int) bool { return true }, 1
	case plainFlag[name] != 0:
		return func(place int) bool { return b.Msgs[place].Flags&plainFlag[name] != 0 }, 1
	case strings.HasPrefix(name, "UN") && plainFlag[name[2:]] != 0:
		return func(place int) bool { return b.Msgs[place].Flags&plainFlag[name[2:]] == 0 }, 1
	case plainNumber.MatchString(word.Text) && word.Kind == 1 && (name == "LARGER" || name == "SMALLER"):
		n, _ := strconv.Atoi(word.Text)
		return func(place int) bool {
			return name == "LARGER" && len(octets(place)) > n || name == "SMALLER" && len(octets(place)) < n
		}, 2
	case slices.Contains([]string{"SUBJECT", "FROM", "TO"}, name) && (word.Kind == 1 || word.Kind == 2):
		return func(place int) bool {
			value, is := head.Field(b.Msgs[place].Octets, name)
			return is && plainHas(value, word.Text)
		}, 2
	case name == "BODY" && (word.Kind == 1 || word.Kind == 2):
		return func(place int) bool {
			_, text := head.Cut(b.Msgs[place].Octets)
			return plainHas(string(text), word.Text)
		}, 2
	case name == "TEXT" && (word.Kind == 1 || word.Kind == 2):
		return func(place int) bool { return plainHas(octets(place), word.Text) }, 2
	case name == "UID" && word.Kind == 1 && plainIsSet(word.Text):
		var uids []uint64
		for _, m := range b.Msgs {
			uids = append(uids, uint64(m.UID))
		}
		return func(place int) bool { return plainIn(word.Text, uids[place], slices.Max(uids)) }, 2
	case plainIsSet(name):
		return func(place int) bool { return plainIn(name, uint64(place)+1, uint64(len(b.Msgs))) }, 1
	}
	return nil, 0
}

var (
	plainFlag   = map[string]int{"SEEN": 1, "ANSWERED": 2, "FLAGGED": 4, "DELETED": 8, "DRAFT": 16}
	plainNumber = regexp.MustCompile(`\A[0-9]{1,9}\z`)
	plainSet    = regexp.MustCompile(`\A(?:[1-9][0-9]*|\*)(?::(?:[1-9][0-9]*|\*))?\z`)
)

func plainIsSet(s string) bool {
	parts := strings.Split(s, ",")
	for _, part := range parts {
		if !plainSet.MatchString(part) {
			return false
		}
		for _, n := range strings.Split(part, ":") {
			if _, e := strconv.ParseUint(strings.Replace(n, "*", "1", 1), 10, 32); e != nil {
				return false
			}
		}
	}
	return len(parts) <= 100
}

func plainIn(set string, n, greatest uint64) bool {
	for _, part := range strings.Split(set, ",") {
		var ends []uint64
		for _, end := range strings.Split(part, ":") {
			x, e := strconv.ParseUint(end, 10, 32)
			if e != nil {
				x = greatest
			}
			ends = append(ends, x)
		}
		if n > 0 && slices.Min(ends) <= n && n <= slices.Max(ends) {
			return true
		}
	}
	return false
}

// plainGreat and plainHas go by the letters that they name, and no others.
func plainGreat(s string) string {
	for _, c := range "abcdefghijklmnopqrstuvwxyz" {
		s = strings.ReplaceAll(s, string(c), string(c-0x20))
	}
	return s
}

func plainHas(s, word string) bool {
	return strings.Contains(plainGreat(s), plainGreat(word))
}

func TestOfThePlainWords(t *testing.T) {
	if s := plainGreat("aZz{`\xff\xe1é@[m"); s != "AZZ{`\xff\xe1é@[M" {
		t.Errorf("%q", s)
	}
}

// wantKeys tells whether these messages are found, by their places.
func wantKeys(t *testing.T, b api.Box, tokens []lex.Token, want ...int) {
	t.Helper()
	if places, ok := plainFind(b, tokens); !ok || !slices.Equal(places, want) {
		t.Errorf("the plain words say of %s: %v, %v, not %v", shown(tokens), places, ok, want)
	}
	if places := search.Find(b, tokens); !slices.Equal(places, want) {
		t.Errorf("Find(.., %s): %v, want %v", shown(tokens), places, want)
	}
	if !search.Right(tokens) {
		t.Errorf("Right(%s): false", shown(tokens))
	}
}

// wantFound is wantKeys of a line.
func wantFound(t *testing.T, b api.Box, line string, want ...int) {
	t.Helper()
	wantKeys(t, b, tokensOf(t, line), want...)
}

// wantNoKeys tells whether the tokens aren't keys.
func wantNoKeys(t *testing.T, tokens []lex.Token) {
	t.Helper()
	if _, ok := plainFind(some(), tokens); ok {
		t.Errorf("the plain words say that %s are keys", shown(tokens))
	}
	wantRefused(t, tokens)
}

func wantRefused(t *testing.T, tokens []lex.Token) {
	t.Helper()
	if search.Right(tokens) {
		t.Errorf("Right(%s): true", shown(tokens))
	}
	for _, b := range []api.Box{some(), {}} {
		if places := search.Find(b, tokens); len(places) != 0 {
			t.Errorf("Find(.., %s): %v, want none", shown(tokens), places)
		}
	}
}

// wantNone is wantNoKeys of a line.
func wantNone(t *testing.T, line string) {
	t.Helper()
	wantNoKeys(t, tokensOf(t, line))
}

// wantAsPlain holds what is told against the plain words, and tells whether the tokens are keys.
func wantAsPlain(t *testing.T, b api.Box, tokens []lex.Token) bool {
	t.Helper()
	want, is := plainFind(b, tokens)
	if right := search.Right(tokens); right != is {
		t.Fatalf("Right(%s): %v", shown(tokens), right)
	}
	if places := search.Find(b, tokens); !slices.Equal(places, want) {
		t.Fatalf("Find(%.200v, %s): %v, want %v", b, shown(tokens), places, want)
	}
	return is
}

// wantAsPlainOf holds what is told of the key and the word against the plain words, and answers where that is found.
func wantAsPlainOf(t *testing.T, b api.Box, key, word string) map[int]bool {
	t.Helper()
	tokens := []lex.Token{atom(key), text(word)}
	if !wantAsPlain(t, b, tokens) {
		t.Errorf("%s %q isn't taken as a key", key, word)
	}
	places := map[int]bool{}
	for _, place := range search.Find(b, tokens) {
		places[place] = true
	}
	return places
}

// shown tells tokens by their kinds and what they say.
func shown(tokens []lex.Token) string {
	var parts []string
	for i, t := range tokens {
		if i == 30 {
			parts = append(parts, "..")
			break
		}
		parts = append(parts, fmt.Sprintf("%d:%.40q", t.Kind, t.Text))
	}
	return strings.Join(parts, " ")
}

func tokensOf(t *testing.T, line string) []lex.Token {
	t.Helper()
	tokens, ok := lex.Tokens([]byte(line))
	if !ok {
		t.Errorf("%q isn't tokens", line)
	}
	return tokens
}

// some answers a mailbox of messages of all sorts.
func some() api.Box {
	return api.Box{Name: "INBOX", Epoch: 3, Next: 41, Msgs: []api.Msg{
		{UID: 2, Flags: api.Seen, Octets: []byte("Subject: Hello there\r\nFrom: Ann <ann@x.org>\r\nTo: bob\r\n\r\nThe world is wide.\r\n")},
		{UID: 3, Flags: api.Deleted | api.Seen, Octets: []byte("from: Bob\r\nsubject: Re:\r\n hello\r\n\tthere\r\nTO: ann,\r\n carl\r\nSubject: second\r\n\r\n")},
		{UID: 7, Octets: []byte("x")},
		{UID: 8, Flags: api.Answered | api.Flagged | api.Draft, Octets: []byte("To: \r\nCc: ann\r\n\r\nSubject: hello\r\nFrom: ann\r\n\r\nTo: bob\r\n")},
		{UID: 19, Flags: 31, Octets: nil},
		{UID: 40, Flags: api.Draft, Octets: []byte("\r\nSubject: no head\r\n\r\nThe WORLD")},
	}}
}

func atom(s string) lex.Token { return lex.Token{Kind: 1, Text: s} }

func text(s string) lex.Token { return lex.Token{Kind: 2, Text: s} }

func opening() lex.Token { return lex.Token{Kind: 3} }

func closing() lex.Token { return lex.Token{Kind: 4} }

// boxOf answers a mailbox with these octets.
func boxOf(octets ...string) api.Box {
	b := api.Box{Name: "a", Epoch: 1, Next: uint32(len(octets)) + 1}
	for i, s := range octets {
		b.Msgs = append(b.Msgs, api.Msg{UID: uint32(i) + 1, Octets: []byte(s)})
	}
	return b
}

func quoted(s string) string {
	return `"` + strings.NewReplacer(`"`, `\"`, `\`, `\\`).Replace(s) + `"`
}

func literal(s string) string {
	return "{" + strconv.Itoa(len(s)) + "}\r\n" + s
}

// inLetters answers s in great letters, in small ones, and in every second one so.
func inLetters(s string) []string {
	mixed, other := "", ""
	for i, c := range strings.Split(s, "") {
		if i%2 == 0 {
			mixed, other = mixed+strings.ToUpper(c), other+strings.ToLower(c)
		} else {
			mixed, other = mixed+strings.ToLower(c), other+strings.ToUpper(c)
		}
	}
	return []string{strings.ToUpper(s), strings.ToLower(s), mixed, other}
}

package search_test

import (
	"math"
	"strconv"
	"strings"
	"testing"

	"cubby/api"
	"cubby/lex"
)

// P17.1: Find

func TestFindByHand(t *testing.T) {
	for line, want := range map[string][]int{
		"ALL": {0, 1, 2, 3, 4, 5}, "all": {0, 1, 2, 3, 4, 5}, "ALL ALL": {0, 1, 2, 3, 4, 5},
		"SEEN": {0, 1, 4}, "ANSWERED": {3, 4}, "FLAGGED": {3, 4}, "DELETED": {1, 4}, "DRAFT": {3, 4, 5},
		"UNSEEN": {2, 3, 5}, "UNANSWERED": {0, 1, 2, 5}, "UNFLAGGED": {0, 1, 2, 5}, "UNDELETED": {0, 2, 3, 5}, "UNDRAFT": {0, 1, 2},
		"SUBJECT hello": {0, 1}, "SUBJECT \"LO  THERE\"": nil, "SUBJECT \"LO THERE\"": {0}, "SUBJECT \"lo\tthere\"": {1}, "SUBJECT Re": {0, 1}, "SUBJECT Re:": {1}, "SUBJECT second": nil, "SUBJECT \"\"": {0, 1}, "SUBJECT head": nil,
		"FROM ann": {0}, "FROM bob": {1}, "FROM @X.ORG": {0}, "FROM {1}\r\nb": {1}, "FROM \"\"": {0, 1}, "FROM x": {0},
		"TO ann": {1}, "TO bob": {0}, "TO \"\"": {0, 1, 3}, "TO \"ann, carl\"": {1},
		"BODY world": {0, 5}, "BODY hello": {3}, "BODY \"\"": {0, 1, 2, 3, 4, 5}, "BODY subject": {3, 5}, "BODY x": nil,
		"TEXT world": {0, 5}, "TEXT hello": {0, 1, 3}, "TEXT \"\"": {0, 1, 2, 3, 4, 5}, "TEXT second": {1}, "TEXT x": {0, 2}, "TEXT {4}\r\n\r\n\r\n": {0, 1, 3, 5},
		"LARGER 0": {0, 1, 2, 3, 5}, "LARGER 1": {0, 1, 3, 5}, "LARGER 999999999": nil, "SMALLER 0": nil, "SMALLER 1": {4}, "SMALLER 2": {2, 4}, "SMALLER 999999999": {0, 1, 2, 3, 4, 5}, "SMALLER 000000002": {2, 4},
		"UID 2": {0}, "UID 1": nil, "UID 3:8": {1, 2, 3}, "UID 8:3,40": {1, 2, 3, 5}, "UID *": {5}, "UID 19:*": {4, 5}, "UID 41:*": {5}, "UID 1:*": {0, 1, 2, 3, 4, 5}, "UID 4,5,6": nil,
		"1": {0}, "7": nil, "2:3": {1, 2}, "3:2,6": {1, 2, 5}, "*": {5}, "5:*": {4, 5}, "*:5": {4, 5}, "9:*": {5}, "1:*": {0, 1, 2, 3, 4, 5}, "40": nil, "1,1,1": {0},
		"NOT ALL": nil, "NOT 2": {0, 2, 3, 4, 5}, "NOT SEEN": {2, 3, 5}, "NOT UNSEEN": {0, 1, 4}, "NOT NOT SEEN": {0, 1, 4}, "NOT SEEN DELETED": nil, "SEEN NOT DELETED": {0}, "NOT SUBJECT \"\"": {2, 3, 4, 5},
		"OR SEEN DRAFT": {0, 1, 3, 4, 5}, "OR 1 6": {0, 5}, "OR SEEN DELETED DRAFT": {4}, "OR OR 1 2 3": {0, 1, 2}, "OR 1 OR 2 3": {0, 1, 2}, "OR NOT SEEN DELETED": {1, 2, 3, 4, 5}, "NOT OR SEEN DRAFT": {2},
		"(SEEN)": {0, 1, 4}, "(SEEN DELETED)": {1, 4}, "((SEEN) (DELETED))": {1, 4}, "NOT (SEEN DELETED)": {0, 2, 3, 5}, "OR (SEEN DELETED) 1": {0, 1, 4}, "OR 1 (SEEN DELETED) UID 19": {4}, "(NOT SEEN DELETED)": nil, "(OR 1 2) (OR 2 3)": {1},
		"SEEN DELETED": {1, 4}, "DELETED SEEN UID 3": {1}, "SEEN DELETED DRAFT ANSWERED FLAGGED 5": {4}, "SEEN UNSEEN": nil,
		"SUBJECT NOT": nil, "SUBJECT SUBJECT": nil, "BODY BODY": nil, "TEXT TEXT": nil, "TEXT FROM": {0, 1, 3}, "BODY FROM FROM BOB": nil, "TEXT OR SEEN": {0}, "OR TEXT FROM TEXT x": {0, 1, 2, 3},
	} {
		wantFound(t, some(), line, want...)
	}
}

func TestFindInNoMessages(t *testing.T) {
	for _, line := range []string{"ALL", "UNSEEN", "NOT SEEN", "SUBJECT \"\"", "TEXT \"\"", "SMALLER 9", "UID *", "*", "1:*", "NOT *", "OR ALL ALL", "(ALL)"} {
		wantFound(t, api.Box{}, line)
		wantFound(t, api.Box{Name: "a", Epoch: 1, Next: 5, Msgs: []api.Msg{}}, line)
	}
}

// All flags that there are, and bits beside them that are none.
func TestFindByFlags(t *testing.T) {
	var b api.Box
	for _, more := range []int{0, 32, 64, 1 << 20, math.MinInt} {
		for flags := range 32 {
			b.Msgs = append(b.Msgs, api.Msg{UID: uint32(len(b.Msgs)) + 1, Flags: flags | more})
		}
	}
	b.Msgs = append(b.Msgs, api.Msg{UID: 700, Flags: -1}, api.Msg{UID: 701, Flags: math.MaxInt})
	for flag, name := range map[int]string{api.Seen: "SEEN", api.Answered: "ANSWERED", api.Flagged: "FLAGGED", api.Deleted: "DELETED", api.Draft: "DRAFT"} {
		var with, without []int
		for place, m := range b.Msgs {
			if m.Flags&flag != 0 {
				with = append(with, place)
			} else {
				without = append(without, place)
			}
		}
		for _, written := range inLetters(name) {
			wantFound(t, b, written, with...)
			wantFound(t, b, "NOT "+written, without...)
			for _, un := range []string{"UN", "un", "Un", "uN"} {
				wantFound(t, b, un+written, without...)
				wantFound(t, b, "not "+un+written, with...)
			}
		}
	}
}

// Each byte is found by itself, and, if it is one of A to Z, in either letter: nothing else.
func TestFindOfEachByte(t *testing.T) {
	for c := range 256 {
		want := []byte{byte(c)}
		switch {
		case 'a' <= c && c <= 'z':
			want = append(want, byte(c-'a'+'A'))
		case 'A' <= c && c <= 'Z':
			want = append(want, byte(c-'A'+'a'))
		}
		for _, octets := range []string{"?", "12?34", "\xff?\x00", "\n\n?"} {
			var b api.Box
			for d := range 256 {
				b.Msgs = append(b.Msgs, api.Msg{UID: uint32(d) + 1, Octets: []byte(strings.Replace(octets, "?", string([]byte{byte(d)}), 1))})
			}
			for _, word := range []string{"?", octets} {
				if strings.Contains(strings.Replace(octets, word, "", 1), string([]byte{byte(c)})) {
					continue
				}
				word = strings.Replace(word, "?", string([]byte{byte(c)}), 1)
				places := wantAsPlainOf(t, b, "TEXT", word)
				if len(places) != len(want) {
					t.Errorf("%q is found in %v, want %v", word, places, want)
				}
				for _, w := range want {
					if !places[int(w)] {
						t.Errorf("%q isn't found in %v", word, w)
					}
				}
			}
		}
		wantAsPlain(t, some(), []lex.Token{atom("SUBJECT"), text(string([]byte{byte(c)}))})
		wantAsPlain(t, some(), []lex.Token{atom("BODY"), text(string([]byte{byte(c)}))})
	}
}

// In fields and in texts words are found as in octets.
func TestFindOfEachByteInParts(t *testing.T) {
	for c := range 256 {
		word := string([]byte{'1', byte(c), '2'})
		for _, name := range []string{"Subject", "From", "To", ""} {
			var b api.Box
			for d := range 256 {
				octets := "A: b\r\n" + name + ": 1" + string([]byte{byte(d)}) + "2\r\n\r\n12"
				if name == "" {
					octets = "12\r\n\r\n1" + string([]byte{byte(d)}) + "2"
				}
				b.Msgs = append(b.Msgs, api.Msg{UID: uint32(d) + 1, Octets: []byte(octets)})
			}
			key := strings.ToUpper(name)
			if name == "" {
				key = "BODY"
			}
			places := wantAsPlainOf(t, b, key, word)
			want := 1
			switch {
			case 'a' <= c|0x20 && c|0x20 <= 'z':
				want = 2
			case c == '\n' && name != "":
				// It ends the field's line.
				want = 0
			}
			if len(places) != want || places[c] != (want > 0) {
				t.Errorf("%s %q: %v", key, word, places)
			}
		}
	}
}

func TestFindOfLettersThatAreFoldedElsewhere(t *testing.T) {
	b := boxOf("Subject: s\u017fk\u212ai\u0130\u0131\r\n\r\nß \u00c4", "Subject: SSKKII\r\n\r\nSS \u00e4", "Subject: \u00e9\r\n\r\n\xc3", "Subject: [\\]^_\r\n\r\n{|}~`@")
	for word, want := range map[string][]int{"s": {0, 1}, "ss": {1}, "k": {0, 1}, "kk": {1}, "ii": {1}, "\u017f": {0}, "S\u017f": {0}, "\u212a": {0}, "\u0131": {0}, "\u0130": {0}, "\u00c9": nil, "\u00e9": {2}, "{|}": nil, "[\\]": {3}} {
		wantKeys(t, b, []lex.Token{atom("SUBJECT"), text(word)}, want...)
	}
	for word, want := range map[string][]int{"ss": {1}, "\u00df": {0}, "\u00e4": {1}, "\u00c4": {0}, "\xc3": {0, 1, 2}, "\x84": {0}, "\xa4": {1}, "[": nil, "@`": nil, "`@": {3}, "{|}~": {3}} {
		wantKeys(t, b, []lex.Token{atom("BODY"), text(word)}, want...)
	}
}

// Where a word stands: at the beginning, at the end, nearly, twice, and over where parts meet.
func TestFindOfWords(t *testing.T) {
	b := boxOf("", "n", "needle", "a needle", "needle b", "xneedley", "needl", "eedle", "ne\r\nedle", "nneedlee", "NEEDLE", "needneedle", "n e e d l e", "needle\r\n\r\nneedle", "x\r\n\r\nneedle", "needle\r\n\r\n", "\r\nneedle", "nee\r\n\r\ndle")
	wantFound(t, b, "TEXT needle", 2, 3, 4, 5, 9, 10, 11, 13, 14, 15, 16)
	wantFound(t, b, "BODY Needle", 13, 14, 16)
	wantFound(t, b, "BODY dle", 13, 14, 16, 17)
	wantFound(t, b, "NOT TEXT NEEDLE", 0, 1, 6, 7, 8, 12, 17)
	wantFound(t, b, "TEXT {10}\r\nnee\r\n\r\ndle", 17)
	wantFound(t, b, "TEXT {2}\r\n\r\n", 8, 13, 14, 15, 16, 17)
	wantFound(t, b, "TEXT \"needle \"", 4)
	wantFound(t, b, "TEXT \" needle\"", 3)
	for _, m := range b.Msgs {
		for i := range len(m.Octets) + 1 {
			for j := i; j <= len(m.Octets); j++ {
				for _, key := range []string{"TEXT", "BODY", "SUBJECT"} {
					wantAsPlain(t, b, []lex.Token{atom(key), text(string(m.Octets[i:j]))})
				}
			}
		}
	}
}

func TestFindOfFields(t *testing.T) {
	for name, others := range map[string][]string{"Subject": {"From", "To"}, "From": {"To", "Subject"}, "To": {"Subject", "From"}} {
		key := strings.ToUpper(name)
		var octets []string
		for _, written := range inLetters(name) {
			octets = append(octets, written+": a Word\r\n\r\n")
		}
		octets = append(octets,
			others[0]+": word\r\n"+others[1]+": word\r\n\r\n"+name+": word\r\n",
			name+": no\r\n"+name+": word\r\n\r\n",
			name+":word",
			name+":\r\n word\r\n\r\n",
			name+": wo\r\n rd\r\n\r\n",
			name+" : word\r\n\r\n",
			" "+name+": word\r\n\r\n",
			"X"+name+": word\r\n\r\n",
			name+"s: word\r\n\r\n",
			"X: y\r\n "+name+": word\r\n\r\n",
			"\r\n"+name+": word\r\n",
			name+": word\n\n",
			"no field\r\n"+name+": WORD",
			others[0]+": no\r\n word\r\n"+name+": no\r\nX: word",
			name+": swords\r\n\r\n",
		)
		b := boxOf(octets...)
		for _, written := range inLetters(key) {
			wantFound(t, b, written+" word", 0, 1, 2, 3, 6, 7, 15, 16, 18)
			wantFound(t, b, written+" \"A WORD\"", 0, 1, 2, 3)
			wantFound(t, b, written+" \"wo rd\"", 8)
			wantFound(t, b, written+" {2}\r\n\r\n")
			wantFound(t, b, written+" \"\"", 0, 1, 2, 3, 5, 6, 7, 8, 15, 16, 17, 18)
			wantFound(t, b, "NOT "+written+" \"\"", 4, 9, 10, 11, 12, 13, 14)
		}
	}
	// Blanks and tabs around a value are none of it.
	b := boxOf("To: \t a  b \t\r\n\r\n", "To:\r\n\r\n", "To: :\r\n\r\n")
	wantFound(t, b, "TO \" \"", 0)
	wantFound(t, b, "TO \"a  b\"", 0)
	wantFound(t, b, "TO \" a\"")
	wantFound(t, b, "TO \"b \"")
	wantFound(t, b, "TO \"\t\"")
	wantFound(t, b, "TO :", 2)
	wantFound(t, b, "TO \"\"", 0, 1, 2)
}

// All keys asked of one message, one behind the other, more than once: none of them hangs on those ahead of it.
func TestFindAskedAgain(t *testing.T) {
	b := boxOf("Subject: One\r\nFrom: Two\r\nTo: Three\r\n\r\nFour")
	keys := []string{"SUBJECT one", "FROM two", "TO three", "BODY four", "TEXT one", "TEXT two", "TEXT four", "LARGER 5", "1", "UID 1", "NOT SUBJECT two", "NOT FROM three", "NOT TO one", "NOT BODY one", "NOT TEXT five", "NOT BODY five"}
	for i := range keys {
		for j := range keys {
			wantFound(t, b, keys[i]+" "+keys[j]+" "+keys[i], 0)
			wantFound(t, b, "NOT ("+keys[i]+" "+keys[j]+") "+keys[i])
			wantFound(t, b, "OR NOT "+keys[i]+" "+keys[j], 0)
		}
	}
}

func TestFindOfSizes(t *testing.T) {
	var octets []string
	sizes := []int{0, 1, 2, 9, 10, 11, 99, 100, 101, 19999, 20000}
	for _, n := range sizes {
		octets = append(octets, strings.Repeat("o", n))
	}
	b := boxOf(octets...)
	for n := range 20003 {
		if n > 300 && n < 19900 {
			continue
		}
		var larger, smaller []int
		for place, size := range sizes {
			if size > n {
				larger = append(larger, place)
			}
			if size < n {
				smaller = append(smaller, place)
			}
		}
		s := strconv.Itoa(n)
		for len(s) <= 9 {
			wantFound(t, b, "larger "+s, larger...)
			wantFound(t, b, "Smaller "+s, smaller...)
			s = "0" + s
		}
		wantNone(t, "LARGER "+s)
		wantNone(t, "SMALLER "+s)
	}
}

// Octets of more bytes than a mailbox may have, by the last numbers of nine digits that they reach.
func TestFindOfGreatSizes(t *testing.T) {
	b := boxOf(strings.Repeat("o", 1<<20), "")
	wantFound(t, b, "LARGER 1048575", 0)
	wantFound(t, b, "LARGER 1048576")
	wantFound(t, b, "SMALLER 1048576", 1)
	wantFound(t, b, "SMALLER 1048577", 0, 1)
	wantFound(t, b, "LARGER 999999999")
	wantFound(t, b, "SMALLER 999999999", 0, 1)
}

func sets() []string {
	return []string{"1", "2", "3", "6", "7", "8", "19", "40", "41", "4294967295", "*", "1:*", "*:1", "2:4", "4:2", "*:*", "6:*", "7:*", "*:7", "20:*", "41:*", "*:41", "4294967295:*", "1:4294967295", "4294967295:1", "1,3,5", "5,3,1", "2,2", "1:2,5:*", "*,1", "9,10,11,12", "39:41", "4:6", "9:18", strings.Repeat("1,", 99) + "1", strings.Repeat("9:18,", 99) + "19"}
}

func noSets() []string {
	return []string{"0", "00", "01", "0:1", "1:0", "1:", ":1", ":", ",", "1,", ",1", "1,,2", "1:2:3", "**", "*1", "-1", "+1", "1.", "a", "1a", "4294967296", "1:4294967296", "99999999999999999999", "1-2", "1;2", strings.Repeat("1,", 100) + "1", "$", "UID", "ALL"}
}

func TestFindOfSets(t *testing.T) {
	last := api.Box{Msgs: []api.Msg{{UID: 1}, {UID: 4294967294}, {UID: 4294967295}}}
	for _, s := range sets() {
		for _, b := range []api.Box{some(), last, boxOf("a"), boxOf("a", "b", "c", "d", "e", "f", "g", "h"), {}} {
			for _, line := range []string{s, "UID " + s, "uid " + s, "NOT " + s, "NOT UID " + s, "(" + s + ")", "OR " + s + " Uid " + s, s + " UID " + s} {
				if !wantAsPlain(t, b, tokensOf(t, line)) {
					t.Errorf("%q isn't taken as keys", line)
				}
			}
		}
	}
	for _, s := range noSets() {
		wantNone(t, "UID "+s)
		wantNone(t, "UID "+s+" 1")
		if s != "ALL" {
			wantNone(t, s)
			wantNone(t, "NOT "+s)
			wantNone(t, "OR 1 "+s)
			wantNone(t, "("+s+")")
		}
	}
}

// The greatest number is that of the last message, the greatest UID is asked of all of them, wherever it stands.
func TestFindOfMailboxesThatAreNotRight(t *testing.T) {
	b := api.Box{Msgs: []api.Msg{{UID: 5}, {UID: 9, Flags: -1}, {UID: 0}, {UID: 9}, {UID: 2}}}
	wantFound(t, b, "UID *", 1, 3)
	wantFound(t, b, "UID 6:*", 1, 3)
	wantFound(t, b, "UID 1:*", 0, 1, 3, 4)
	wantFound(t, b, "UID 1:4294967295", 0, 1, 3, 4)
	wantFound(t, b, "*", 4)
	wantFound(t, b, "3", 2)
	wantFound(t, b, "ALL", 0, 1, 2, 3, 4)
	wantFound(t, api.Box{Msgs: []api.Msg{{}, {}}}, "UID *")
	wantFound(t, api.Box{Msgs: []api.Msg{{}, {}}}, "*", 1)
}

// More messages than a mailbox may have.
func TestFindInManyMessages(t *testing.T) {
	b := boxOf(make([]string, 3000)...)
	b.Msgs[2999].Flags = api.Seen
	wantFound(t, b, "SEEN", 2999)
	wantFound(t, b, "*", 2999)
	wantFound(t, b, "UID 2999:*", 2998, 2999)
	wantFound(t, b, "500:502", 499, 500, 501)
}

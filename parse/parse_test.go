package parse_test

import (
	"strings"
	"testing"

	"cubby/api"
	"cubby/date"
	"cubby/lex"
	"cubby/parse"
	"cubby/seqset"
)

// P16.1: Parse

func TestParseByHand(t *testing.T) {
	wantParse(t, "a noop", parse.Command{Tag: "a", Name: "NOOP"})
	wantParse(t, "a LOGIN ann nna", parse.Command{Tag: "a", Name: "LOGIN", User: "ann", Pass: "nna"})
	wantParse(t, "A1 Login \"a b\" {3}\r\nb a", parse.Command{Tag: "A1", Name: "LOGIN", User: "a b", Pass: "b a"})
	wantParse(t, "b2 select inbox", parse.Command{Tag: "b2", Name: "SELECT", Box: "INBOX"})
	wantParse(t, "b3 EXAMINE lists/go", parse.Command{Tag: "b3", Name: "EXAMINE", Box: "lists/go"})
	wantParse(t, "b4 CREATE \"lists/go\"", parse.Command{Tag: "b4", Name: "CREATE", Box: "lists/go"})
	wantParse(t, "b5 STATUS {5}\r\nInBox", parse.Command{Tag: "b5", Name: "STATUS", Box: "INBOX"})
	wantParse(t, "c LIST \"\" *", parse.Command{Tag: "c", Name: "LIST", Pattern: "*"})
	wantParse(t, "c LIST lists/ %", parse.Command{Tag: "c", Name: "LIST", Ref: "lists/", Pattern: "%"})
	wantParse(t, "d APPEND inbox \"hi\"", parse.Command{Tag: "d", Name: "APPEND", Box: "INBOX", Octets: []byte("hi")})
	wantParse(t, "d APPEND x (\\Seen \\draft) \"hi\"", parse.Command{Tag: "d", Name: "APPEND", Box: "x", Flags: api.Seen | api.Draft, Octets: []byte("hi")})
	wantParse(t, "d APPEND x \"17-Jul-1996 02:44:25 -0700\" {4}\r\nhi\r\n", parse.Command{Tag: "d", Name: "APPEND", Box: "x", HasDate: true, Date: 837596665, Octets: []byte("hi\r\n")})
	wantParse(t, "d APPEND x (\\Flagged) \" 1-Jan-1970 00:00:05 +0000\" {2}\r\nhi", parse.Command{Tag: "d", Name: "APPEND", Box: "x", Flags: api.Flagged, HasDate: true, Date: 5, Octets: []byte("hi")})
	wantParse(t, "e FETCH 1 FLAGS", parse.Command{Tag: "e", Name: "FETCH", Set: spans(1, 1), Items: []parse.Item{{Kind: 2}}})
	wantParse(t, "e fetch 1:*,3 (UID body.peek[header] BODY[])", parse.Command{Tag: "e", Name: "FETCH", Set: spans(1, 0, 3, 3), Items: []parse.Item{{Kind: 1}, {Kind: 7, Peek: true}, {Kind: 6}}})
	wantParse(t, "f STORE 2 FLAGS (\\Seen)", parse.Command{Tag: "f", Name: "STORE", Set: spans(2, 2), Flags: api.Seen})
	wantParse(t, "f STORE 2 +Flags (\\Seen)", parse.Command{Tag: "f", Name: "STORE", Set: spans(2, 2), How: 1, Flags: api.Seen})
	wantParse(t, "f STORE 2 -FLAGS.Silent (\\Deleted \\Answered)", parse.Command{Tag: "f", Name: "STORE", Set: spans(2, 2), How: 2, Silent: true, Flags: api.Deleted | api.Answered})
	wantParse(t, "f STORE 2 FLAGS ()", parse.Command{Tag: "f", Name: "STORE", Set: spans(2, 2)})
	wantParse(t, "g COPY 4:2 lists/go", parse.Command{Tag: "g", Name: "COPY", Set: spans(4, 2), Box: "lists/go"})
	wantParse(t, "h SEARCH ALL", parse.Command{Tag: "h", Name: "SEARCH", Keys: []lex.Token{atom("ALL")}})
	wantParse(t, "h SEARCH (not Seen) subject \"a b\"", parse.Command{Tag: "h", Name: "SEARCH", Keys: []lex.Token{opening(), atom("not"), atom("Seen"), closing(), atom("subject"), text("a b")}})
	wantParse(t, "i UID FETCH 7 UID", parse.Command{Tag: "i", Name: "FETCH", UID: true, Set: spans(7, 7), Items: []parse.Item{{Kind: 1}}})
	wantParse(t, "i uid store 7:8 +flags (\\Deleted)", parse.Command{Tag: "i", Name: "STORE", UID: true, Set: spans(7, 8), How: 1, Flags: api.Deleted})
	wantParse(t, "i Uid Copy * x", parse.Command{Tag: "i", Name: "COPY", UID: true, Set: spans(0, 0), Box: "x"})
	wantParse(t, "i UID SEARCH UID 7", parse.Command{Tag: "i", Name: "SEARCH", UID: true, Keys: []lex.Token{atom("UID"), atom("7")}})
	wantParse(t, "i UID EXPUNGE 4,9", parse.Command{Tag: "i", Name: "EXPUNGE", UID: true, Set: spans(4, 4, 9, 9)})
	wantParse(t, "i EXPUNGE", parse.Command{Tag: "i", Name: "EXPUNGE"})
}

func TestParseOfWhatHasNothing(t *testing.T) {
	for _, name := range []string{"CAPABILITY", "NOOP", "LOGOUT", "CHECK", "CLOSE", "EXPUNGE", "IDLE"} {
		for _, written := range inLetters(name) {
			wantParse(t, "a "+written, parse.Command{Tag: "a", Name: name})
			for _, more := range []string{" ", " x", " \"\"", " {0}\r\n", " ()", "  ", " 1", " (x)", " " + name, "\r\n", "x", ".", "()", "\x00"} {
				wantNone(t, "a "+written+more)
			}
			for _, other := range []string{written[1:], written[:len(written)-1], written + "S", "\"" + written + "\"", literal(written), "(" + written + ")", " " + written, written + "\t", "\\" + written} {
				wantNone(t, "a "+other)
			}
			if name != "EXPUNGE" {
				wantNone(t, "a UID "+written)
				wantNone(t, "a UID "+written+" 1")
			}
		}
	}
}

func TestParseOfNoNames(t *testing.T) {
	for _, b := range []string{
		"", " ", "a", "a ", " NOOP", "NOOP", "a UID", "a UID ", "a UID UID", "a UID UID FETCH 1 UID", "a UID FETCH", "a bogus", "a bogus 1", "a DONE", "a AUTHENTICATE PLAIN", "a DELETE x", "a RENAME x y", "a SUBSCRIBE x", "a LSUB \"\" *", "a UNSELECT", "a STARTTLS", "a NAMESPACE", "a MOVE 1 x", "a UID MOVE 1 x",
		"a UID SELECT x", "a UID APPEND x \"\"", "a UID LOGIN x x", "a UID LIST \"\" *", "a UID STATUS x", "a UID IDLE", "a UID CREATE x",
		"a\tNOOP", "a  NOOP", "a\r\nNOOP", "a NOOP\r\n", "a NO OP", "a NOOP NOOP", "a b NOOP", "(a) NOOP", "(a NOOP)", "a (NOOP)", "\"a\" NOOP", "a \"NOOP\"", literal("a") + " NOOP", "a " + literal("NOOP"), "a! NOOP", "* NOOP", "+ NOOP", "a-1 NOOP", "a 1 FETCH", "a 1", "a *", "a \u0130DLE", "a CHEC\u212a", "a CLO\u017fE", "a \xff",
		"a \"UID\" FETCH 1 UID", "a UID \"FETCH\" 1 UID", "a UID (FETCH 1 UID)", "a (UID) FETCH 1 UID", "a UIDFETCH 1 UID", "a UID  FETCH 1 UID", "a UID.FETCH 1 UID",
	} {
		wantNone(t, b)
	}
}

// Each name with what each other one has.
func TestParseOfOtherNames(t *testing.T) {
	names := []string{"CAPABILITY", "NOOP", "LOGOUT", "CHECK", "CLOSE", "EXPUNGE", "IDLE", "LOGIN", "SELECT", "EXAMINE", "CREATE", "STATUS", "LIST", "APPEND", "FETCH", "STORE", "COPY", "SEARCH", "UID", "DONE"}
	behind := []string{"", " x", " x y", " \"x\" \"y\"", " x \"y\"", " x () \"y\"", " 1", " 1 x", " 1 FLAGS", " 1 (UID)", " 1 FLAGS ()", " ALL", " \"\" \"*\""}
	commands := 0
	for _, name := range names {
		for _, written := range append(inLetters(name), name+"X", name[1:]) {
			for _, rest := range behind {
				for _, uid := range []string{"", "UID ", "uid ", "Uid Uid "} {
					if wantAsPlain(t, "a "+uid+written+rest) {
						commands++
					}
				}
			}
		}
	}
	if commands < 300 {
		t.Error("nearly nothing was a command:", commands)
	}
}

func TestParseOfTags(t *testing.T) {
	for n := range 30 {
		tag := strings.Repeat("a", n)
		if n >= 1 && n <= 20 {
			wantParse(t, tag+" NOOP", parse.Command{Tag: tag, Name: "NOOP"})
		} else {
			wantNone(t, tag+" NOOP")
		}
	}
	for c := range 256 {
		tag := string([]byte{byte(c)})
		if strings.Contains("abcdefghijklmnopqrstuvwxyzABCDEFGHIJKLMNOPQRSTUVWXYZ0123456789", tag) {
			wantParse(t, tag+" NOOP", parse.Command{Tag: tag, Name: "NOOP"})
			wantParse(t, "1"+tag+"z NOOP", parse.Command{Tag: "1" + tag + "z", Name: "NOOP"})
		} else {
			wantNone(t, tag+" NOOP")
			wantNone(t, "1"+tag+"z NOOP")
		}
	}
	// It stays in the letters in which it is written, and may be a name.
	wantParse(t, "uid UID EXPUNGE 1", parse.Command{Tag: "uid", Name: "EXPUNGE", UID: true, Set: spans(1, 1)})
	wantParse(t, "Noop Noop", parse.Command{Tag: "Noop", Name: "NOOP"})
}

// words answers words as they are written, and what they say.
func words() map[string]string {
	said := map[string]string{}
	for _, s := range []string{"x", "ann", "NIL", "1", "*", "%", "}", "[", "\\", "\\Seen", "1:*", "a/b", "a;'b", "INBOX"} {
		said[s], said[quoted(s)], said[literal(s)] = s, s, s
	}
	for _, s := range []string{"", " ", "a b", "\"", "\\\"", "(", ")", "()", "{1}", "\xff\x00", "é", "\t"} {
		said[quoted(s)], said[literal(s)] = s, s
	}
	said[literal("\r\n")], said[literal("a\r\nb NOOP")] = "\r\n", "a\r\nb NOOP"
	return said
}

func TestParseOfLogins(t *testing.T) {
	for user, saidUser := range words() {
		for pass, saidPass := range words() {
			wantParse(t, "a LOGIN "+user+" "+pass, parse.Command{Tag: "a", Name: "LOGIN", User: saidUser, Pass: saidPass})
		}
		for _, b := range []string{user, user + " " + user + " " + user, user + " ()", "() " + user, "(" + user + " " + user + ")", "(" + user + ") " + user, user + " (" + user + ")", user + "  " + user, user + " " + user + " "} {
			wantNone(t, "a LOGIN "+b)
		}
	}
	long := strings.Repeat("u", 100000)
	wantParse(t, "a LOGIN "+long+" "+long+"p", parse.Command{Tag: "a", Name: "LOGIN", User: long, Pass: long + "p"})
	for _, b := range []string{"", " ", " ()", " () ()"} {
		wantNone(t, "a LOGIN"+b)
	}
}

// boxed answers what may stand ahead of a box, and behind it.
func boxed() []struct{ ahead, behind string } {
	return []struct{ ahead, behind string }{
		{"a SELECT ", ""}, {"a EXAMINE ", ""}, {"a CREATE ", ""}, {"a STATUS ", ""}, {"a COPY 1 ", ""}, {"a UID COPY 1 ", ""}, {"a APPEND ", " \"\""}, {"a APPEND ", " (\\Seen) \" 1-Jan-1970 00:00:05 +0000\" {2}\r\nhi"},
	}
}

func TestParseOfBoxes(t *testing.T) {
	right := map[string]string{"inbox": "INBOX", "INBOX": "INBOX", "iNbOx": "INBOX", "inbox/a": "inbox/a", "inboxx": "inboxx", strings.Repeat("n", 60): strings.Repeat("n", 60)}
	for _, s := range []string{"x", "X", "a/b/c", "a.b_c-d", "0", "-", ".", "..", "NIL", "1", "a" + strings.Repeat("/b", 29)} {
		right[s] = s
	}
	for _, c := range boxed() {
		for s, want := range right {
			for _, raw := range []string{s, quoted(s), literal(s)} {
				got, ok := parse.Parse([]byte(c.ahead + raw + c.behind))
				if !ok || got.Box != want {
					t.Errorf("the box %q is told as %q, %v", raw, got.Box, ok)
				}
				wantAsPlain(t, c.ahead+raw+c.behind)
			}
		}
		for _, s := range []string{"/", "/a", "a/", "a//b", "a*", "%", "a\\b", "a+b", "~", "#x", "a,b", "INBOX/", strings.Repeat("n", 61), strings.Repeat("n", 1000)} {
			wantNone(t, c.ahead+s+c.behind)
			wantNone(t, c.ahead+quoted(s)+c.behind)
			wantNone(t, c.ahead+literal(s)+c.behind)
		}
		for _, s := range []string{"", " ", "a b", " a", "a ", "é", "\xff", "a\x00", "\"", "(a)", "a\n"} {
			wantNone(t, c.ahead+quoted(s)+c.behind)
			wantNone(t, c.ahead+literal(s)+c.behind)
		}
		for _, raw := range []string{"(x)", "()", "(\"x\")", "x y", "x x", "\"x\" \"y\"", "x ", " x", ""} {
			wantNone(t, c.ahead+raw+c.behind)
		}
	}
	for _, c := range []string{"SELECT", "EXAMINE", "CREATE", "STATUS"} {
		wantNone(t, "a "+c)
		wantNone(t, "a "+c+" x (MESSAGES)")
		wantNone(t, "a "+c+" x ()")
		wantNone(t, "a UID "+c+" x")
	}
}

func TestParseOfLists(t *testing.T) {
	for ref, saidRef := range words() {
		for pattern, saidPattern := range words() {
			wantParse(t, "a LIST "+ref+" "+pattern, parse.Command{Tag: "a", Name: "LIST", Ref: saidRef, Pattern: saidPattern})
		}
		for _, b := range []string{ref, ref + " ()", "() " + ref, ref + " " + ref + " " + ref, ref + " (" + ref + ")", "(" + ref + ") " + ref, "(" + ref + " " + ref + ")"} {
			wantNone(t, "a LIST "+b)
		}
	}
	for _, n := range []int{0, 1, 59, 60, 61, 62, 120, 255, 256, 257, 316, 65536, 65596} {
		for _, c := range []string{"x", "*", "%", "/"} {
			s := strings.Repeat(c, n)
			raws := []string{quoted(s), literal(s)}
			if n > 0 {
				raws = append(raws, s)
			}
			for _, raw := range raws {
				if n <= 60 {
					wantParse(t, "a LIST \"\" "+raw, parse.Command{Tag: "a", Name: "LIST", Pattern: s})
				} else {
					wantNone(t, "a LIST \"\" "+raw)
				}
				// The other word may be of any length.
				wantParse(t, "a LIST "+raw+" %", parse.Command{Tag: "a", Name: "LIST", Ref: s, Pattern: "%"})
			}
		}
	}
	// What it says counts, not how it is written; and bytes count, not letters.
	wantParse(t, "a LIST \"\" "+quoted(strings.Repeat("\"", 60)), parse.Command{Tag: "a", Name: "LIST", Pattern: strings.Repeat("\"", 60)})
	wantNone(t, "a LIST \"\" "+quoted(strings.Repeat("\"", 61)))
	wantParse(t, "a LIST \"\" "+quoted(strings.Repeat("é", 30)), parse.Command{Tag: "a", Name: "LIST", Pattern: strings.Repeat("é", 30)})
	wantNone(t, "a LIST \"\" "+quoted(strings.Repeat("é", 30)+"x"))
	wantNone(t, "a LIST")
}

// flagLists answers flags as they are written, and what they are.
func flagLists() map[string]int {
	return map[string]int{
		"()": 0, "(\\Seen)": 1, "(\\Answered)": 2, "(\\Flagged)": 4, "(\\Deleted)": 8, "(\\Draft)": 16,
		"(\\SEEN)": 1, "(\\answered)": 2, "(\\fLAGGED)": 4, "(\\dElEtEd)": 8, "(\\DRAFt)": 16,
		"(\\Seen \\Seen)": 1, "(\\Draft \\seen)": 17, "(\\Deleted \\Flagged \\Answered)": 14, "(\\Seen \\Answered \\Flagged \\Deleted \\Draft)": 31,
		"(" + strings.Repeat("\\Seen ", 150) + "\\Draft)": 17,
	}
}

func noFlagLists() []string {
	return []string{
		"(\\Foo)", "(Seen)", "(\\)", "(\\Seen\\Draft)", "(\\Seen,\\Draft)", "(\\Seen \\Foo)", "(\\Foo \\Seen)", "(\\Recent)", "(\\*)", "($Forwarded)", "(0)", "(1)", "(\\Seen 1)", "(\\\\Seen)", "(\\Seen.)", "(NIL)",
		"(\"\\\\Seen\")", "(" + literal("\\Seen") + ")", "(\\Seen \"\\\\Draft\")", "(\"\")",
		"(())", "((\\Seen))", "(\\Seen ())", "(() \\Seen)", "(\\Seen (\\Draft))", "() ()", "(\\Seen) (\\Draft)",
		"\\Seen", "\\Seen \\Draft", "NIL", "\"()\"", "\"(\\\\Seen)\"", "\"\\\\Seen\"", literal("()"), "(", ")", "( )", "(\\Seen", "\\Seen)", "(\\Seen )", "( \\Seen)", "(\\Seen  \\Draft)",
	}
}

func TestParseOfFlags(t *testing.T) {
	for raw, want := range flagLists() {
		wantParse(t, "a APPEND x "+raw+" \"hi\"", parse.Command{Tag: "a", Name: "APPEND", Box: "x", Flags: want, Octets: []byte("hi")})
		for how, s := range []string{"FLAGS", "+FLAGS", "-FLAGS"} {
			wantParse(t, "a STORE 1 "+s+" "+raw, parse.Command{Tag: "a", Name: "STORE", Set: spans(1, 1), How: how, Flags: want})
			wantParse(t, "a UID STORE 1 "+s+".SILENT "+raw, parse.Command{Tag: "a", Name: "STORE", UID: true, Set: spans(1, 1), How: how, Silent: true, Flags: want})
		}
	}
	for _, raw := range noFlagLists() {
		wantNone(t, "a APPEND x "+raw+" \"hi\"")
		wantNone(t, "a STORE 1 FLAGS "+raw)
		wantNone(t, "a UID STORE 1 +FLAGS.SILENT "+raw)
	}
	wantNone(t, "a STORE 1 FLAGS (\\Seen) x")
	wantNone(t, "a STORE 1 FLAGS (\\Seen) \"\"")
}

func TestParseOfAppends(t *testing.T) {
	times := map[string]int64{" 1-Jan-1970 00:00:00 +0000": 0, "01-jan-1970 00:00:05 +0000": 5, "17-Jul-1996 02:44:25 -0700": 837596665, "31-Dec-9999 23:59:59 +0000": 253402300799}
	for s, at := range times {
		for _, raw := range []string{quoted(s), literal(s)} {
			for _, octets := range []string{"", "hi", "hi\r\n", "a\x00\xff", s} {
				o := literal(octets)
				wantParse(t, "a APPEND x "+raw+" "+o, parse.Command{Tag: "a", Name: "APPEND", Box: "x", HasDate: true, Date: at, Octets: []byte(octets)})
				wantParse(t, "a APPEND x () "+raw+" "+o, parse.Command{Tag: "a", Name: "APPEND", Box: "x", HasDate: true, Date: at, Octets: []byte(octets)})
				wantParse(t, "a APPEND x (\\Draft) "+raw+" "+o, parse.Command{Tag: "a", Name: "APPEND", Box: "x", Flags: api.Draft, HasDate: true, Date: at, Octets: []byte(octets)})
				// The time is behind the flags, ahead of the octets, and there once.
				for _, b := range []string{raw + " () " + o, raw + " " + raw + " " + o, "() () " + raw + " " + o, "() " + raw + " () " + o, "(" + raw + ") " + o, raw + " " + o + " " + o, raw + " " + o + " ()", raw + " " + o + " x"} {
					wantNone(t, "a APPEND x "+b)
				}
			}
			// A time without octets behind it is the octets.
			wantParse(t, "a APPEND x "+raw, parse.Command{Tag: "a", Name: "APPEND", Box: "x", Octets: []byte(s)})
			wantParse(t, "a APPEND x (\\Seen) "+raw, parse.Command{Tag: "a", Name: "APPEND", Box: "x", Flags: api.Seen, Octets: []byte(s)})
			wantNone(t, "a APPEND x "+raw+" hi")
			wantNone(t, "a APPEND x "+raw+" (hi)")
		}
	}
	for _, s := range []string{"", " ", "0", "5", "bad date", "1-Jan-1970 00:00:00 +0000", "30-Feb-2000 00:00:00 +0000", " 1-Jan-1970 24:00:00 +0000", "31-Dec-1969 23:59:59 +0000", " 1-Jan-1970 00:00:00 +0001", " 1-Jan-1970 00:00:00", "01-Jan-10000 00:00:00 +0000"} {
		for _, raw := range []string{quoted(s), literal(s)} {
			wantNone(t, "a APPEND x "+raw+" \"hi\"")
			wantNone(t, "a APPEND x (\\Seen) "+raw+" \"hi\"")
		}
	}
	for _, b := range []string{"", " x", " x ()", " x hi", " x () hi", " x NIL \"hi\"", " x 5 \"hi\"", " x (\\Seen) 5 \"hi\"", " x 17-Jul-1996 02:44:25 -0700 \"hi\"", " x 17-Jul-1996 \"hi\"", " x (hi)", " x (\"hi\")", " x \"hi\" ()", " x \"hi\" (\\Seen)", " \"hi\"", " () \"hi\"", " () x \"hi\"", " x \"hi\" x", " x \"hi\" \"hi\" \"hi\"", " x \\Seen \"hi\"", " x {2}\r\nhi\r\n", " x {2}\r\nh", " x {2}\r\nhi "} {
		wantNone(t, "a APPEND"+b)
	}
}

func TestParseOfOctets(t *testing.T) {
	for c := range 256 {
		s := string([]byte{'x', byte(c), byte(c)})
		wantParse(t, "a APPEND x "+literal(s), parse.Command{Tag: "a", Name: "APPEND", Box: "x", Octets: []byte(s)})
		wantParse(t, "a APPEND x "+quoted(s), parse.Command{Tag: "a", Name: "APPEND", Box: "x", Octets: []byte(s)})
	}
	for _, n := range []int{0, 1, 255, 256, 19999, 20000, 20001, 65536, 999999} {
		s := strings.Repeat("o\r\n", n)[:n]
		wantParse(t, "a APPEND x "+literal(s), parse.Command{Tag: "a", Name: "APPEND", Box: "x", Octets: []byte(s)})
	}
}

// sets answers sets as they are written, and what they are.
func sets() map[string][]seqset.Span {
	return map[string][]seqset.Span{
		"1": spans(1, 1), "*": spans(0, 0), "4294967295": spans(1<<32-1, 1<<32-1), "1:*": spans(1, 0), "*:1": spans(0, 1), "9:2": spans(9, 2), "2:4,*": spans(2, 4, 0, 0), "1,1,1": spans(1, 1, 1, 1, 1, 1), "*:*": spans(0, 0),
	}
}

func noSets() []string {
	return []string{
		"0", "00", "01", "1:0", "0:1", "-1", "+1", "4294967296", "1:4294967296", "18446744073709551617", ",", "1,", ",1", "1,,2", "1:", ":1", ":", "1:2:3", "**", "1*", "*1", "x", "1x", "1;2", "1.2", "1-2", "1/2", "NIL", "ALL",
		"(1)", "(1:2)", "(1 2)", "()", "1 2", "1, 2", "\"1\"", "\"1:2\"", "\"*\"", literal("1"), "\"\"", strings.Repeat("1,", 100) + "1",
	}
}

func TestParseOfSets(t *testing.T) {
	hundred := strings.Repeat("1,", 99) + "1"
	all := sets()
	all[hundred] = make([]seqset.Span, 100)
	for i := range all[hundred] {
		all[hundred][i] = seqset.Span{From: 1, To: 1}
	}
	for raw, set := range all {
		for _, uid := range []string{"", "UID "} {
			wantParse(t, "a "+uid+"FETCH "+raw+" UID", parse.Command{Tag: "a", Name: "FETCH", UID: uid != "", Set: set, Items: []parse.Item{{Kind: 1}}})
			wantParse(t, "a "+uid+"STORE "+raw+" FLAGS ()", parse.Command{Tag: "a", Name: "STORE", UID: uid != "", Set: set})
			wantParse(t, "a "+uid+"COPY "+raw+" 1", parse.Command{Tag: "a", Name: "COPY", UID: uid != "", Set: set, Box: "1"})
		}
		wantParse(t, "a UID EXPUNGE "+raw, parse.Command{Tag: "a", Name: "EXPUNGE", UID: true, Set: set})
		wantNone(t, "a EXPUNGE "+raw)
		wantNone(t, "a UID EXPUNGE "+raw+" "+raw)
		wantNone(t, "a UID EXPUNGE ("+raw+")")
	}
	for _, raw := range noSets() {
		for _, uid := range []string{"", "UID "} {
			wantNone(t, "a "+uid+"FETCH "+raw+" UID")
			wantNone(t, "a "+uid+"STORE "+raw+" FLAGS ()")
			wantNone(t, "a "+uid+"COPY "+raw+" x")
			wantNone(t, "a "+uid+"EXPUNGE "+raw)
		}
	}
	for _, b := range []string{"FETCH", "FETCH UID", "FETCH 1", "STORE", "STORE 1", "STORE 1 FLAGS", "STORE FLAGS ()", "COPY", "COPY 1", "COPY x", "COPY x 1", "COPY 1 x y", "COPY 1 (x)", "UID EXPUNGE"} {
		wantNone(t, "a "+b)
		wantNone(t, "a UID "+b)
	}
}

func TestParseOfHows(t *testing.T) {
	for how, s := range []string{"FLAGS", "+FLAGS", "-FLAGS"} {
		for _, written := range inLetters(s) {
			wantParse(t, "a STORE 1 "+written+" (\\Seen)", parse.Command{Tag: "a", Name: "STORE", Set: spans(1, 1), How: how, Flags: api.Seen})
			for _, silent := range inLetters(".SILENT") {
				wantParse(t, "a STORE 1 "+written+silent+" (\\Seen)", parse.Command{Tag: "a", Name: "STORE", Set: spans(1, 1), How: how, Silent: true, Flags: api.Seen})
			}
			// Some of them are such: +FLAGS without its +, and FLAGS with a + ahead.
			for _, raw := range []string{written + "X", written[:len(written)-1], written + ".", written + ".SILEN", written + ".SILENTX", written + ".SILENT.SILENT", written[1:], written + ".LOUD", written + " .SILENT", written + "SILENT", ".SILENT" + written, "+" + written, "-" + written, " " + written, "(" + written + ")", quoted(written), literal(written), quoted(written + ".SILENT"), written + " " + written} {
				wantAsPlain(t, "a STORE 1 "+raw+" (\\Seen)")
			}
		}
	}
	for _, raw := range []string{"FLAGSX", "FLAG", "X", "*FLAGS", "++FLAGS", "+-FLAGS", "-+FLAGS", "--FLAGS", "+", "-", ".SILENT", "+.SILENT", "FLAGS.SILENTS", "FLAGS.SILENT.SILENT", "FLAGS..SILENT", "FLAGS.SILEN", "FLAGS.", "FLAGSSILENT", "UID", "BODY[]", "\"FLAGS\"", literal("+FLAGS"), "(FLAGS)", "FLAGS FLAGS", "0", "1", "()", "FLAG\u017f"} {
		wantNone(t, "a STORE 1 "+raw+" (\\Seen)")
		wantNone(t, "a UID STORE 1 "+raw+" (\\Seen)")
	}
}

// allItems answers the items' names, in the chapter's order.
func allItems() []string {
	return []string{"UID", "FLAGS", "INTERNALDATE", "RFC822.SIZE", "ENVELOPE", "BODY[]", "BODY[HEADER]", "BODY[TEXT]", "BODY.PEEK[]", "BODY.PEEK[HEADER]", "BODY.PEEK[TEXT]"}
}

func TestParseOfItems(t *testing.T) {
	for _, name := range allItems() {
		item := plainItems()[name]
		for _, written := range inLetters(name) {
			wantParse(t, "a FETCH 1 "+written, parse.Command{Tag: "a", Name: "FETCH", Set: spans(1, 1), Items: []parse.Item{item}})
			wantParse(t, "a FETCH 1 ("+written+")", parse.Command{Tag: "a", Name: "FETCH", Set: spans(1, 1), Items: []parse.Item{item}})
			wantParse(t, "a UID FETCH 1 ("+written+" UID "+written+")", parse.Command{Tag: "a", Name: "FETCH", UID: true, Set: spans(1, 1), Items: []parse.Item{item, {Kind: 1}, item}})
			for _, b := range []string{quoted(written), literal(written), "(" + quoted(written) + ")", "(" + written + " " + quoted(written) + ")", written + " " + written, "((" + written + "))", "(" + written + " ())", "(" + written + " (UID))", "(" + written + ") (UID)", "(" + written + ") UID", written + " ()", "() " + written, written + "X", "X" + written, written[1:], written[:len(written)-1], written + ".PEEK", written + "[]", written + "<0.1>", "(" + written, written + ")", "(" + written + " )", "( " + written + ")"} {
				wantNone(t, "a FETCH 1 "+b)
				wantNone(t, "a UID FETCH 1 "+b)
			}
		}
	}
	for _, b := range []string{"", "()", "(())", "NAME", "ALL", "FAST", "FULL", "BODY", "BODY[", "BODY]", "BODY.PEEK", "BODY.PEEK[", "BODY[1]", "BODY[MIME]", "BODY[ HEADER]", "BODY[UID]", "BODY[FLAGS]", "BODY.PEEK[1]", "BODY.PEEK[UID]", "BODY.PEEK.PEEK[]", "BODY.PEEK[][]", "BODYPEEK[]", "PEEK[]", "UID.PEEK", "FLAGS.PEEK", "BODY.PEEK[].PEEK", "BODY[PEEK]", "BODY[].PEEK", "BODY[]]", "BODY[[]", "BODY[HEADER.FIELDS", "BODY[HEADER.FIELDS (TO)]", "RFC822", "RFC822.HEADER", "RFC822.TEXT", "RFC822SIZE", "RFC822.SIZES", "BODYSTRUCTURE", "1", "*", "\"\"", "\\Seen", "(\\Seen)", "(UID NAME)", "(NAME UID)", "(UID  FLAGS)", "(UID,FLAGS)", "UID,FLAGS", "BODY.PEEKUID", "BODY.PEEK[BODY[]", "BODY.PEEK[BODY.PEEK[]"} {
		wantNone(t, "a FETCH 1 "+b)
		wantNone(t, "a UID FETCH 1 "+b)
	}
}

func TestParseOfCountsOfItems(t *testing.T) {
	names := allItems()
	for n := 1; n <= 190; n++ {
		var raws []string
		var want []parse.Item
		for i := range n {
			raws = append(raws, names[i%len(names)])
			want = append(want, plainItems()[names[i%len(names)]])
		}
		same := "a FETCH 1:* (" + strings.TrimSuffix(strings.Repeat("BODY[] ", n), " ") + ")"
		b := "a FETCH 1:* (" + strings.Join(raws, " ") + ")"
		if n > 20 {
			wantNone(t, b)
			wantNone(t, same)
			continue
		}
		wantParse(t, b, parse.Command{Tag: "a", Name: "FETCH", Set: spans(1, 0), Items: want})
		if c, ok := parse.Parse([]byte(same)); !ok || len(c.Items) != n || c.Items[n-1] != (parse.Item{Kind: 6}) {
			t.Errorf("%d items that are the same: %v, %v", n, c.Items, ok)
		}
	}
}

// What keys are is read by layer 17: here they are any tokens.
func TestParseOfKeys(t *testing.T) {
	for raw, keys := range map[string][]lex.Token{
		"TEXT " + literal(") ") + " SMALL": {atom("TEXT"), text(") "), atom("SMALL")},
		"ALL":                              {atom("ALL")},
		"all":                              {atom("all")},
		"bogus":                            {atom("bogus")},
		"SEARCH":                           {atom("SEARCH")},
		"\"\"":                             {text("")},
		"\"a b\"":                          {text("a b")},
		literal("a\r\n"):                   {text("a\r\n")},
		"()":                               {opening(), closing()},
		"(())":                             {opening(), opening(), closing(), closing()},
		"NOT (SEEN)":                       {atom("NOT"), opening(), atom("SEEN"), closing()},
		"1:*,0 UID x":                      {atom("1:*,0"), atom("UID"), atom("x")},
		"or \"b\\\"c\" \\":                 {atom("or"), text("b\"c"), atom("\\")},
		"(a) (b) c":                        {opening(), atom("a"), closing(), opening(), atom("b"), closing(), atom("c")},
	} {
		wantParse(t, "a SEARCH "+raw, parse.Command{Tag: "a", Name: "SEARCH", Keys: keys})
		wantParse(t, "a uid search "+raw, parse.Command{Tag: "a", Name: "SEARCH", UID: true, Keys: keys})
		for _, b := range []string{raw + " ", " " + raw, raw + ")", "(" + raw, "( " + raw + ")"} {
			wantNone(t, "a SEARCH "+b)
		}
	}
	wantNone(t, "a SEARCH")
	wantNone(t, "a UID SEARCH")
	wantNone(t, "a SEARCH ")
}

// There are at most 200 tokens, the tag and the name among them.
func TestParseOfCountsOfKeys(t *testing.T) {
	for n := 1; n <= 210; n++ {
		for uid, most := range map[string]int{"": 198, "UID ": 197} {
			b := "a " + uid + "SEARCH " + strings.TrimSuffix(strings.Repeat("k ", n), " ")
			if n > most {
				wantNone(t, b)
				continue
			}
			var keys []lex.Token
			for range n {
				keys = append(keys, atom("k"))
			}
			wantParse(t, b, parse.Command{Tag: "a", Name: "SEARCH", UID: uid != "", Keys: keys})
		}
	}
}

// What is told as a time here is the time that layer 7 prints.
func TestParseOfTimes(t *testing.T) {
	for n := int64(0); n <= 253402300799; n += 1000000007 {
		wantParse(t, "a APPEND x \""+date.Print(n)+"\" {1}\r\nx", parse.Command{Tag: "a", Name: "APPEND", Box: "x", HasDate: true, Date: n, Octets: []byte("x")})
	}
}

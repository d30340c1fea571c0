package parse_test

import (
	"encoding/hex"
	"fmt"
	"reflect"
	"regexp"
	"strconv"
	"strings"
	"testing"

	"cubby/api"
	"cubby/date"
	"cubby/lex"
	"cubby/name"
	"cubby/parse"
	"cubby/seqset"
)

// The chapter's words, over a line in which a blank stands between two tokens: an atom as a: and its bytes, a text as t: and
// its bytes in hex, ( and ).
const (
	plainWord  = `(?:a:\S+|t:[0-9a-f]*)`
	plainText  = `t:[0-9a-f]*`
	plainSet   = ` a:(?P<set>\S+)`
	plainBox   = ` (?P<box>` + plainWord + `)`
	plainFlags = ` \((?P<flags>(?: a:\S+)*) \)`
	plainFetch = `FETCH` + plainSet + ` (?P<items>a:\S+|\((?: a:\S+)+ \))`
	plainStore = `STORE` + plainSet + ` a:(?P<how>FLAGS|\+FLAGS|-FLAGS)(?P<silent>\.SILENT)?` + plainFlags
	plainCopy  = `COPY` + plainSet + plainBox
	plainKeys  = `SEARCH (?P<keys>\S.*)`
)

// plainForms answers what stands behind a tag.
func plainForms() []string {
	return []string{
		`CAPABILITY`, `NOOP`, `LOGOUT`, `CHECK`, `CLOSE`, `EXPUNGE`, `IDLE`,
		`LOGIN (?P<user>` + plainWord + `) (?P<pass>` + plainWord + `)`,
		`SELECT` + plainBox, `EXAMINE` + plainBox, `CREATE` + plainBox, `STATUS` + plainBox,
		`LIST (?P<ref>` + plainWord + `) (?P<pattern>` + plainWord + `)`,
		`APPEND` + plainBox + `(?:` + plainFlags + `)?(?: (?P<date>` + plainText + `))? (?P<octets>` + plainText + `)`,
		plainFetch, plainStore, plainCopy, plainKeys,
		`(?P<uid>UID) a:` + plainFetch, `(?P<uid>UID) a:` + plainStore, `(?P<uid>UID) a:` + plainCopy, `(?P<uid>UID) a:` + plainKeys,
		`(?P<uid>UID) a:EXPUNGE` + plainSet,
	}
}

var (
	plainTagForm = regexp.MustCompile(`\A([A-Za-z0-9]{1,20})(?: |\z)`)
	plainMatches = compiled(plainForms())
	plainNames   = regexp.MustCompile(`\A(?:UID A:)?([A-Z]+)`)
)

func compiled(forms []string) []*regexp.Regexp {
	var l []*regexp.Regexp
	for _, form := range forms {
		l = append(l, regexp.MustCompile(`\Aa:(?P<tag>[A-Za-z0-9]{1,20}) a:(?P<all>(?i:`+form+`))\z`))
	}
	return l
}

func plainTag(b string) string {
	if m := plainTagForm.FindStringSubmatch(b); m != nil {
		return m[1]
	}
	return "*"
}

// lineOf tells tokens as the forms ask for them.
func lineOf(l []lex.Token) string {
	var parts []string
	for _, t := range l {
		switch t.Kind {
		case 1:
			parts = append(parts, "a:"+t.Text)
		case 2:
			parts = append(parts, "t:"+hex.EncodeToString([]byte(t.Text)))
		case 3:
			parts = append(parts, "(")
		case 4:
			parts = append(parts, ")")
		}
	}
	return strings.Join(parts, " ")
}

// wordOf answers what an atom or a text of such a line says.
func wordOf(s string) string {
	if atom, is := strings.CutPrefix(s, "a:"); is {
		return atom
	}
	b, _ := hex.DecodeString(strings.TrimPrefix(s, "t:"))
	return string(b)
}

// plainParse tells by the chapter's words which command b is.
func plainParse(b string) (parse.Command, bool) {
	none := parse.Command{Tag: plainTag(b)}
	tokens, ok := lex.Tokens([]byte(b))
	if !ok {
		return none, false
	}
	line := lineOf(tokens)
	for _, form := range plainMatches {
		m := form.FindStringSubmatch(line)
		if m == nil {
			continue
		}
		has := map[string]string{}
		for i, s := range form.SubexpNames() {
			has[s] = m[i]
		}
		if c, right := plainFill(has, tokens); right {
			return c, true
		}
	}
	return none, false
}

// plainFill answers what is told by the parts that a line has.
func plainFill(has map[string]string, tokens []lex.Token) (parse.Command, bool) {
	c := parse.Command{
		Tag: has["tag"], Name: plainNames.FindStringSubmatch(strings.ToUpper(has["all"]))[1], UID: has["uid"] != "",
		User: wordOf(has["user"]), Pass: wordOf(has["pass"]), Ref: wordOf(has["ref"]), Pattern: wordOf(has["pattern"]),
		Silent: has["silent"] != "", HasDate: has["date"] != "", Octets: []byte(wordOf(has["octets"])),
		How: max(0, strings.Index("F+-", plainFirst(has["how"]))),
	}
	right := len(c.Pattern) <= 60
	and := func(ok bool) { right = right && ok }
	ok := false
	if has["box"] != "" {
		c.Box, ok = name.Norm(wordOf(has["box"]))
		and(ok)
	}
	if has["set"] != "" {
		c.Set, ok = seqset.Parse(has["set"])
		and(ok)
	}
	if has["date"] != "" {
		c.Date, ok = date.Parse(wordOf(has["date"]))
		and(ok)
	}
	for _, s := range strings.Fields(has["flags"]) {
		bit := plainBit(wordOf(s))
		c.Flags |= bit
		and(bit != 0)
	}
	for _, s := range strings.Fields(strings.Trim(has["items"], "()")) {
		item, is := plainItems()[strings.ToUpper(wordOf(s))]
		c.Items = append(c.Items, item)
		and(is)
	}
	and(len(c.Items) <= 20)
	c.Keys = tokens[len(tokens)-len(strings.Fields(has["keys"])):]
	return c, right
}

func plainFirst(s string) string {
	if s == "" {
		return "?"
	}
	return strings.ToUpper(s[:1])
}

func plainBit(s string) int {
	switch strings.ToLower(s) {
	case "\\seen":
		return api.Seen
	case "\\answered":
		return api.Answered
	case "\\flagged":
		return api.Flagged
	case "\\deleted":
		return api.Deleted
	case "\\draft":
		return api.Draft
	}
	return 0
}

func plainItems() map[string]parse.Item {
	return map[string]parse.Item{
		"UID":               {Kind: 1},
		"FLAGS":             {Kind: 2},
		"INTERNALDATE":      {Kind: 3},
		"RFC822.SIZE":       {Kind: 4},
		"ENVELOPE":          {Kind: 5},
		"BODY[]":            {Kind: 6},
		"BODY[HEADER]":      {Kind: 7},
		"BODY[TEXT]":        {Kind: 8},
		"BODY.PEEK[]":       {Kind: 6, Peek: true},
		"BODY.PEEK[HEADER]": {Kind: 7, Peek: true},
		"BODY.PEEK[TEXT]":   {Kind: 8, Peek: true},
	}
}

// isSame tells whether two commands are: a list of nothing may be nil or empty.
func isSame(a, b parse.Command) bool {
	return reflect.DeepEqual(bare(a), bare(b))
}

func bare(c parse.Command) parse.Command {
	if len(c.Octets) == 0 {
		c.Octets = nil
	}
	if len(c.Set) == 0 {
		c.Set = nil
	}
	if len(c.Items) == 0 {
		c.Items = nil
	}
	if len(c.Keys) == 0 {
		c.Keys = nil
	}
	return c
}

// shown tells a command as Errorf can cut it.
func shown(c parse.Command) string { return fmt.Sprintf("%.300s", fmt.Sprintf("%+v", c)) }

// wantParse holds which command b is against what is wanted, and this against the plain words.
func wantParse(t *testing.T, b string, want parse.Command) {
	t.Helper()
	if c, ok := plainParse(b); !ok || !isSame(c, want) {
		t.Errorf("the plain words say of %.200q: %s, %v, not %s", b, shown(c), ok, shown(want))
	}
	if c, ok := parse.Parse([]byte(b)); !ok || !isSame(c, want) {
		t.Errorf("Parse(%.200q): %s, %v, want %s, true", b, shown(c), ok, shown(want))
	}
}

// wantNone tells whether b is no command, and its tag alone is told.
func wantNone(t *testing.T, b string) {
	t.Helper()
	if c, ok := plainParse(b); ok {
		t.Errorf("the plain words say of %.200q: %s", b, shown(c))
	}
	wantNoCommand(t, b)
}

func wantNoCommand(t *testing.T, b string) {
	t.Helper()
	want := parse.Command{Tag: plainTag(b)}
	if c, ok := parse.Parse([]byte(b)); ok || !isSame(c, want) {
		t.Fatalf("Parse(%.200q): %s, %v, want %s, false", b, shown(c), ok, shown(want))
	}
}

// wantAsPlain holds what is told of b against the plain words, and tells whether it is a command.
func wantAsPlain(t *testing.T, b string) bool {
	t.Helper()
	want, is := plainParse(b)
	if !is {
		wantNoCommand(t, b)
		return false
	}
	if c, ok := parse.Parse([]byte(b)); !ok || !isSame(c, want) {
		t.Fatalf("Parse(%.200q): %s, %v, want %s, true", b, shown(c), ok, shown(want))
	}
	return true
}

// together answers what tokens as they stand are with a blank between, where there has to be one.
func together(raws []string) string {
	var s strings.Builder
	for i, raw := range raws {
		if i > 0 && raws[i-1] != "(" && raw != ")" {
			s.WriteByte(' ')
		}
		s.WriteString(raw)
	}
	return s.String()
}

func quoted(s string) string {
	return `"` + strings.NewReplacer(`"`, `\"`, `\`, `\\`).Replace(s) + `"`
}

func literal(s string) string {
	return "{" + strconv.Itoa(len(s)) + "}\r\n" + s
}

func atom(s string) lex.Token { return lex.Token{Kind: 1, Text: s} }

func text(s string) lex.Token { return lex.Token{Kind: 2, Text: s} }

func opening() lex.Token { return lex.Token{Kind: 3} }

func closing() lex.Token { return lex.Token{Kind: 4} }

func spans(n ...uint32) []seqset.Span {
	var l []seqset.Span
	for i := 0; i < len(n); i += 2 {
		l = append(l, seqset.Span{From: n[i], To: n[i+1]})
	}
	return l
}

// inLetters answers s in great letters, in small ones, and in every second one so.
func inLetters(s string) []string {
	mixed, other := "", ""
	for i, c := range strings.Split(s, "") {
		if i%2 == 0 {
			mixed, other = mixed+strings.ToUpper(c), other+strings.ToLower(c)
		} else {
			mixed, other = mixed+strings.ToLower(c), other+strings.ToUpper(c)
		}
	}
	return []string{strings.ToUpper(s), strings.ToLower(s), mixed, other}
}

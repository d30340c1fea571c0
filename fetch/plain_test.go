package fetch_test

import (
	"fmt"
	"regexp"
	"slices"
	"strings"
	"testing"

	"cubby/api"
	"cubby/date"
	"cubby/fetch"
	"cubby/flag"
	"cubby/head"
	"cubby/parse"
)

// The chapter's words, told once more by other means.

var (
	plainInQuotes = regexp.MustCompile(`\A[ -~]*\z`)
	plainBefore   = strings.NewReplacer(`"`, `\"`, `\`, `\\`)
)

// kinds holds the items' names as layer 16's chapter lists them, behind one of no kind.
var kinds = strings.Fields("- UID FLAGS INTERNALDATE RFC822.SIZE ENVELOPE BODY[] BODY[HEADER] BODY[TEXT]")

func plainCounted(s string) string { return fmt.Sprintf("{%d}\r\n%s", len(s), s) }

func plainString(s string) string {
	if plainInQuotes.MatchString(s) {
		return fmt.Sprintf(`"%s"`, plainBefore.Replace(s))
	}
	return plainCounted(s)
}

func plainEnvelope(octets []byte) string {
	s := "(Date Subject From To Message-ID)"
	return regexp.MustCompile(`[A-Za-z-]+`).ReplaceAllStringFunc(s, func(name string) string {
		value, is := head.Field(octets, name)
		if !is {
			return "NIL"
		}
		return plainString(value)
	})
}

func plainValues(m api.Msg) []string {
	ahead, behind := head.Cut(m.Octets)
	return []string{
		"",
		fmt.Sprint(m.UID),
		flag.Print(m.Flags),
		fmt.Sprintf(`"%s"`, date.Print(m.Date)),
		fmt.Sprint(len(m.Octets)),
		plainEnvelope(m.Octets),
		plainCounted(string(m.Octets)),
		plainCounted(string(ahead)),
		plainCounted(string(behind)),
	}
}

func plainPrint(m api.Msg, items []parse.Item) string {
	values := plainValues(m)
	s := ""
	for _, item := range items {
		if item.Kind >= 1 && item.Kind <= 8 {
			s += " " + kinds[item.Kind] + " " + values[item.Kind]
		}
	}
	return "(" + strings.TrimPrefix(s, " ") + ")"
}

func plainMarks(items []parse.Item) bool {
	return slices.ContainsFunc(items, func(item parse.Item) bool {
		return slices.Contains([]int{6, 7, 8}, item.Kind) && !item.Peek
	})
}

func wantString(t *testing.T, s, want string) {
	t.Helper()
	if got := fetch.String(s); got != want {
		t.Errorf("String(%.80q): %.80q, want %.80q", s, got, want)
	}
}

func wantEnvelope(t *testing.T, octets, want string) {
	t.Helper()
	if got := fetch.Envelope([]byte(octets)); got != want {
		t.Errorf("Envelope(%.80q): %.80q, want %.80q", octets, got, want)
	}
}

func wantPrint(t *testing.T, m api.Msg, items []parse.Item, want string) {
	t.Helper()
	if got := fetch.Print(m, items); got != want {
		t.Errorf("Print(%.80q, %.80v): %.80q, want %.80q", m.Octets, items, got, want)
	}
}

func wantMarks(t *testing.T, items []parse.Item, want bool) {
	t.Helper()
	if got := fetch.Marks(items); got != want {
		t.Errorf("Marks(%.80v): %v", items, got)
	}
}

// wantAsPlain holds all that is asked of a message against the plain words.
func wantAsPlain(t *testing.T, m api.Msg, items []parse.Item) {
	t.Helper()
	wantString(t, string(m.Octets), plainString(string(m.Octets)))
	wantEnvelope(t, string(m.Octets), plainEnvelope(m.Octets))
	wantPrint(t, m, items, plainPrint(m, items))
	wantMarks(t, items, plainMarks(items))
}

// ofKinds answers items, none of which peeks.
func ofKinds(l ...int) []parse.Item {
	var items []parse.Item
	for _, kind := range l {
		items = append(items, parse.Item{Kind: kind})
	}
	return items
}

// of answers a message of the octets.
func of(octets string) api.Msg {
	return api.Msg{UID: 12, Date: 837596665, Flags: api.Seen | api.Draft, Octets: []byte(octets)}
}

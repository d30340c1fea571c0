package name_test

import (
	"math/rand"
	"strings"
	"testing"
	"unsafe"

	"cubby/api"
	"cubby/name"
)

func wantNorm(t *testing.T, s, want string) {
	t.Helper()
	if got, ok := name.Norm(s); got != want || !ok {
		t.Errorf("Norm(%q): %q, %v, want %q, true", s, got, ok, want)
	}
}

func wantNoName(t *testing.T, s string) {
	t.Helper()
	if got, ok := name.Norm(s); got != "" || ok {
		t.Errorf("Norm(%q): %q, %v, want none, false", s, got, ok)
	}
}

// mayStand tells by the chapter's words whether a byte may stand in a part.
func mayStand(c byte) bool {
	return strings.IndexByte("abcdefghijklmnopqrstuvwxyzABCDEFGHIJKLMNOPQRSTUVWXYZ0123456789._-", c) >= 0
}

// P6.1: Norm

func TestNormOfNames(t *testing.T) {
	for _, s := range []string{
		"a", "Z", "0", "9", ".", "_", "-", "..", "-.-", "...", "1/2", "a/b", "A/b", "./..", "-/_/.",
		"Work", "work", "WORK", "lists.go-nuts_2026", "a.b_c-d/E.F_G-H/0.1_2-3",
		"drafts", "INBOX.a", "a.INBOX", "INBO", "NBOX", "INBOXX", "INBOX-", "INB0X",
		strings.Repeat("x", api.MaxName), strings.Repeat("a/", 29) + "bc", strings.Repeat("/a", 30)[1:],
	} {
		wantNorm(t, s, s)
	}
}

func TestNormOfLengths(t *testing.T) {
	for n := 1; n <= 60; n++ {
		wantNorm(t, strings.Repeat("n", n), strings.Repeat("n", n))
	}
	for n := 1; n <= 58; n++ {
		s := strings.Repeat("n", n) + "/" + strings.Repeat("m", 59-n)
		wantNorm(t, s, s)
		wantNoName(t, s+"x")
	}
	for _, n := range []int{61, 62, 100, 255, 256, 257, 65536, 65596, 1 << 22} {
		wantNoName(t, strings.Repeat("n", n))
	}
	// The / count.
	wantNoName(t, strings.Repeat("a/", 30)+"b")
	wantNoName(t, strings.Repeat("/", 1<<20))
	wantNoName(t, strings.Repeat("a/", 1<<20)+"b")
}

func TestNormOfBytes(t *testing.T) {
	for c := range 256 {
		b := string([]byte{byte(c)})
		for _, s := range []string{b, b + "x", "x" + b, "x" + b + "x", "a/" + b, b + "/a", "a/x" + b + "y/b", strings.Repeat(b, 60)} {
			if mayStand(byte(c)) {
				wantNorm(t, s, s)
			} else if c != '/' {
				wantNoName(t, s)
			}
		}
	}
}

func TestNormOfParts(t *testing.T) {
	for _, s := range []string{
		"", "/", "//", "///", "a/", "/a", "/a/", "a//", "//a", "a//b", "a/b/", "/a/b", "a/b//c", "a//b/c", "INBOX/", "/INBOX",
		strings.Repeat("x", 59) + "/", "/" + strings.Repeat("x", 59),
	} {
		wantNoName(t, s)
	}
}

func TestNormOfNoNames(t *testing.T) {
	for _, s := range []string{
		" ", "a b", " a", "a ", "a\n", "\na", "a\r\n", "a\x00", "\x00a", "a\tb", "a*", "%", "a%b", "a\\b", "a+b", "a:b", "a;b", "a,b", "(a)", "{a}",
		`"a"`, "'a'", "a@b", "a~", "&AOk-", "a[b]", "a=b", "a!", "a?", "a#", "a$", "a|b", "a<b>", "a^b", "a`b",
		"é", "aé", "ä/b", "а", "名", "\u212aa", "a\u00a0b", "\u0660", "\uff21", "\xff", "a\x80", "a\xc3", "\xe9",
		"a*" + strings.Repeat("b", 58),
	} {
		wantNoName(t, s)
	}
}

// INBOX, in all of its 32 ways.
func TestNormOfInbox(t *testing.T) {
	for ways := range 32 {
		b := []byte("INBOX")
		for n := range b {
			if ways>>n&1 == 1 {
				b[n] += 'a' - 'A'
			}
		}
		wantNorm(t, string(b), "INBOX")
		for _, other := range []string{string(b) + "/a", "a/" + string(b), string(b) + "." + string(b), string(b) + "/" + string(b), string(b)[:4], string(b)[1:]} {
			wantNorm(t, other, other)
		}
		for _, none := range []string{" " + string(b), string(b) + " ", string(b) + "\x00", string(b) + "/", "/" + string(b), `"` + string(b) + `"`} {
			wantNoName(t, none)
		}
	}
	// Letters that look so, or are taken for such ones elsewhere.
	for _, s := range []string{"\u0131nbox", "\u0130NBOX", "INB\u041eX", "\uff29NBOX", "I\x4e\xc2BOX"} {
		wantNoName(t, s)
	}
	// What differs from a letter in the bit by which great ones differ from small ones.
	for _, s := range []string{"\x09NBOX", "I\x0eBOX", "INB/X", "i.box", "INBO8"} {
		if got, _ := name.Norm(s); got == "INBOX" {
			t.Errorf("Norm(%q): %q", s, got)
		}
	}
}

// What is a name is told as one again.
func TestNormTwice(t *testing.T) {
	for _, s := range []string{"inbox", "iNbOx", "a", "a/b", "inbox/a", strings.Repeat("q", 60)} {
		once, _ := name.Norm(s)
		wantNorm(t, once, once)
	}
}

// plainNorm answers what the chapter's words say of s.
func plainNorm(s string) (string, bool) {
	if len(s) < 1 || len(s) > 60 {
		return "", false
	}
	inPart := 0
	for n := range len(s) {
		if s[n] == '/' {
			if inPart == 0 {
				return "", false
			}
			inPart = 0
			continue
		}
		if !mayStand(s[n]) {
			return "", false
		}
		inPart++
	}
	if inPart == 0 {
		return "", false
	}
	if strings.ToUpper(s) == "INBOX" {
		return "INBOX", true
	}
	return s, true
}

// someOf answers n bytes at random of those given.
func someOf(r *rand.Rand, of string, n int) string {
	b := make([]byte, n)
	for i := range b {
		b[i] = of[r.Intn(len(of))]
	}
	return string(b)
}

func TestNormAtRandom(t *testing.T) {
	r := rand.New(rand.NewSource(6))
	right, wrong := 0, 0
	for range 50000 {
		s := someOf(r, "aZ09._-bcd/", r.Intn(64))
		switch r.Intn(4) {
		case 0:
			s = someOf(r, "inboxINBOX", 5)
		case 1:
			at := r.Intn(len(s) + 1)
			s = s[:at] + string([]byte{byte(r.Intn(256))}) + s[at:]
		}
		got, ok := name.Norm(s)
		want, is := plainNorm(s)
		if got != want || ok != is {
			t.Fatalf("Norm(%q): %q, %v, want %q, %v", s, got, ok, want, is)
		}
		if is {
			right++
		} else {
			wrong++
		}
	}
	if right < 1000 || wrong < 1000 {
		t.Error("nearly nothing was right, or nearly nothing wrong:", right, wrong)
	}
}

// P6.1: Up

func TestUp(t *testing.T) {
	long := strings.Repeat("x", 1<<20)
	for s, want := range map[string]string{
		"": "", "a": "", "INBOX": "", "a.b_c-d": "", "a/b": "a", "a/b/c": "a/b", "a/b/c/d": "a/b/c", "inbox/a": "inbox", "INBOX/a/b": "INBOX/a",
		// It isn't asked whether it is a name.
		"/": "", "//": "/", "///": "//", "a/": "a", "/a": "", "/a/b": "/a", "a//b": "a/", "a//": "a/", "a/b/": "a/b",
		"a\\b": "", "é/è": "é", "a/\xff": "a", "\xff/a": "\xff", "a b/ c": "a b", "*/%": "*", "a\x00/b": "a\x00", "\n/": "\n",
		long: "", long + "/" + long: long, "/" + long: "", long + "/": long,
	} {
		if got := name.Up(s); got != want {
			t.Errorf("Up(%.40q): %.40q, want %.40q", s, got, want)
		}
	}
}

func TestUpAtRandom(t *testing.T) {
	r := rand.New(rand.NewSource(66))
	for range 20000 {
		s := someOf(r, "ab//.*\x00\xff", r.Intn(20))
		want := ""
		for n := range len(s) {
			if s[n] == '/' {
				want = s[:n]
			}
		}
		if got := name.Up(s); got != want {
			t.Fatalf("Up(%q): %q, want %q", s, got, want)
		}
	}
}

// P6.1: Like

func wantLike(t *testing.T, pattern, s string, want bool) {
	t.Helper()
	if got := name.Like(pattern, s); got != want {
		t.Errorf("Like(%.60q, %.60q), of %d and %d bytes: %v", pattern, s, len(pattern), len(s), got)
	}
}

func TestLikeByHand(t *testing.T) {
	for pattern, c := range map[string]struct{ like, unlike []string }{
		"":       {[]string{""}, []string{"a", "/", "*", "%", " "}},
		"a":      {[]string{"a"}, []string{"", "A", "b", "aa", "a/", "/a", "a/a"}},
		"a/b":    {[]string{"a/b"}, []string{"a", "b", "a/", "/b", "ab", "a/b/", "a/bc", "A/b"}},
		"/":      {[]string{"/"}, []string{"", "a", "//", "a/b"}},
		"*":      {[]string{"", "a", "/", "a/b", "//", "*", "%", "a/b/c", "\x00", "\xff\xfe", "é\n"}, nil},
		"%":      {[]string{"", "a", "ab", "*", "%", "a b", "\\", "\x00", "\xff\xfe", "é\n"}, []string{"/", "a/", "/a", "a/b", "//"}},
		"**":     {[]string{"", "a", "a/b"}, nil},
		"%%":     {[]string{"", "a", "ab"}, []string{"/", "a/b"}},
		"*%":     {[]string{"", "a", "a/b", "a/"}, nil},
		"%*":     {[]string{"", "a", "a/b", "/b"}, nil},
		"%*%":    {[]string{"", "a", "a/b", "/"}, nil},
		"a*":     {[]string{"a", "ab", "a/", "a/b/c"}, []string{"", "b", "ba", "/a", "A"}},
		"a%":     {[]string{"a", "ab", "aa"}, []string{"", "b", "ba", "a/", "ab/", "a/b"}},
		"*a":     {[]string{"a", "ba", "/a", "b/c/a", "aa"}, []string{"", "b", "ab", "a/", "a/b"}},
		"%a":     {[]string{"a", "ba", "aa", "aba"}, []string{"", "ab", "/a", "b/a", "a/"}},
		"a/*":    {[]string{"a/", "a/b", "a/b/c", "a//"}, []string{"a", "/a", "b/a", "ab/c"}},
		"a/%":    {[]string{"a/", "a/b", "a/bc"}, []string{"a", "a/b/", "a/b/c", "a//", "b/b"}},
		"%/b":    {[]string{"/b", "a/b", "aa/b"}, []string{"b", "a/a/b", "//b", "a/bb", "a/b/"}},
		"*/b":    {[]string{"/b", "a/b", "a/a/b", "//b"}, []string{"b", "ab", "a/bb", "a/b/"}},
		"%/%":    {[]string{"/", "a/b", "a/", "/b"}, []string{"", "a", "a/b/c", "//", "a//b"}},
		"%/%/%":  {[]string{"//", "a/b/c", "a//b"}, []string{"", "/", "a/b", "a/b/c/d", "///"}},
		"*/*":    {[]string{"/", "a/b", "//", "a/b/c"}, []string{"", "a", "ab"}},
		"%/*":    {[]string{"/", "a/b", "a/b/c"}, []string{"", "a"}},
		"*/%":    {[]string{"/", "a/b", "a/b/c"}, []string{"", "a"}},
		"a*c":    {[]string{"ac", "abc", "a/c", "a/b/c", "acc", "acac"}, []string{"a", "c", "ab", "acb", "bac", "a/b"}},
		"a%c":    {[]string{"ac", "abc", "acc", "acac", "a%c", "a*c"}, []string{"a", "c", "a/c", "a/b/c", "ab/c", "acb"}},
		"a%b%":   {[]string{"ab", "axbx", "abab", "axb"}, []string{"a", "b", "a/b", "axb/", "ax/bx"}},
		"a%b*":   {[]string{"ab", "axb/x", "ab/"}, []string{"a/b", "ax/bx"}},
		"*a%b":   {[]string{"ab", "a/ab", "a/a/axb", "aab", "ab/ab"}, []string{"a/b", "ab/", "ab/a", "ab/a/b"}},
		"*a%a*b": {[]string{"aab", "axa/b", "a/aab", "a/axa/b/b"}, []string{"a/ab", "ab", "aa", "a/a/b"}},
		"%a/b%":  {[]string{"a/b", "xa/bx", "aa/bb"}, []string{"a/a/b", "xa/b/", "/a/b", "ab"}},
		"INBOX":  {[]string{"INBOX"}, []string{"inbox", "Inbox", "INBOX/a", ""}},
		"inbox":  {[]string{"inbox"}, []string{"INBOX", "INbox"}},
		"I%":     {[]string{"INBOX", "I"}, []string{"inbox", "i", "INBOX/a"}},
		"a.c":    {[]string{"a.c"}, []string{"abc", "a/c", "ac"}},
		"a?c":    {[]string{"a?c"}, []string{"abc", "ac"}},
		"[a-c]":  {[]string{"[a-c]"}, []string{"a", "b"}},
		"\\*":    {[]string{"\\", "\\a", "\\*", "\\/"}, []string{"*", "", "a\\"}},
		"\\%":    {[]string{"\\", "\\a", "\\%"}, []string{"%", "", "\\/"}},
		"^a$":    {[]string{"^a$"}, []string{"a"}},
		"é%":     {[]string{"é", "éa", "éé"}, []string{"e", "\xc3", "É"}},
		"\xc3%":  {[]string{"é", "\xc3", "\xc3\xc3"}, []string{"\xa9", "/\xc3"}},
		"%\xa9":  {[]string{"é", "\xa9"}, []string{"\xc3"}},
		"\xff*":  {[]string{"\xff", "\xff\xff", "\xffa"}, []string{"\xfe", "\ufffd", ""}},
		"\x00%":  {[]string{"\x00", "\x00a"}, []string{"", "a"}},
		"\ufffd": {[]string{"\ufffd"}, []string{"\xff", "\xef"}},
	} {
		for _, s := range c.like {
			wantLike(t, pattern, s, true)
		}
		for _, s := range c.unlike {
			wantLike(t, pattern, s, false)
		}
	}
}

// Every byte stands for itself, but the two.
func TestLikeOfBytes(t *testing.T) {
	for p := range 256 {
		for c := range 256 {
			pattern, s := string([]byte{byte(p)}), string([]byte{byte(c)})
			want := p == c || p == '*' || p == '%' && c != '/'
			wantLike(t, pattern, s, want)
			wantLike(t, "a"+pattern+"b", "a"+s+"b", want)
		}
	}
}

// plainLike goes by the chapter's words, from the pattern's first byte on.
func plainLike(pattern, s string) bool {
	if pattern == "" {
		return s == ""
	}
	if pattern[0] != '*' && pattern[0] != '%' {
		return s != "" && s[0] == pattern[0] && plainLike(pattern[1:], s[1:])
	}
	for n := 0; n <= len(s); n++ {
		if pattern[0] == '%' && strings.Contains(s[:n], "/") {
			return false
		}
		if plainLike(pattern[1:], s[n:]) {
			return true
		}
	}
	return false
}

// all answers all texts of the letters, of at most n bytes.
func all(letters string, n int) []string {
	l := []string{""}
	last := l
	for range n {
		var longer []string
		for _, s := range last {
			for _, c := range letters {
				longer = append(longer, s+string(c))
			}
		}
		l = append(l, longer...)
		last = longer
	}
	return l
}

func TestLikeOfAllThatAreShort(t *testing.T) {
	texts := all("ab/", 5)
	for _, pattern := range all("a/*%", 5) {
		for _, s := range texts {
			if name.Like(pattern, s) != plainLike(pattern, s) {
				t.Fatalf("Like(%q, %q) isn't %v", pattern, s, plainLike(pattern, s))
			}
		}
	}
}

func TestLikeAtRandom(t *testing.T) {
	r := rand.New(rand.NewSource(666))
	like, unlike := 0, 0
	for range 100000 {
		pattern := someOf(r, "aab/*%", r.Intn(10))
		s := someOf(r, "aaab/", r.Intn(14))
		want := plainLike(pattern, s)
		if name.Like(pattern, s) != want {
			t.Fatalf("Like(%q, %q) isn't %v", pattern, s, want)
		}
		if want {
			like++
		} else {
			unlike++
		}
	}
	if like < 1000 || unlike < 1000 {
		t.Error("nearly nothing was like, or nearly all:", like, unlike)
	}
}

// A text in which the pattern's bytes are put for what they stand for is like it.
func TestLikeOfWhatAPatternStandsFor(t *testing.T) {
	r := rand.New(rand.NewSource(6666))
	for range 5000 {
		pattern := someOf(r, "abc/*%", r.Intn(60))
		var s strings.Builder
		for n := range len(pattern) {
			switch pattern[n] {
			case '*':
				s.WriteString(someOf(r, "abc/*%", r.Intn(10)))
			case '%':
				s.WriteString(someOf(r, "abc*%\xff", r.Intn(10)))
			default:
				s.WriteByte(pattern[n])
			}
		}
		wantLike(t, pattern, s.String(), true)
		wantLike(t, pattern+"d", s.String(), false)
		wantLike(t, "d"+pattern, s.String(), false)
	}
}

// R1: it ends, not only after an age: the ways through such patterns are more than can be tried one by one.
func TestLikeEnds(t *testing.T) {
	a := strings.Repeat("a", 5000)
	long := strings.Repeat("a", 1<<20)
	for _, c := range []struct {
		pattern, s string
		want       bool
	}{
		{strings.Repeat("*", 5000), a, true},
		{strings.Repeat("%", 5000), a, true},
		{strings.Repeat("%*", 2500), a, true},
		{strings.Repeat("*a", 1000), a, true},
		{strings.Repeat("*a", 1000) + "*b", a, false},
		{strings.Repeat("a*", 1000) + "b", a, false},
		{strings.Repeat("%a", 1000), a, true},
		{strings.Repeat("%a", 1000) + "%b", a, false},
		{strings.Repeat("a%", 1000), a + "/", false},
		{strings.Repeat("a%", 1000) + "/%", a + "/", true},
		{strings.Repeat("*a%", 1000) + "b", a, false},
		{strings.Repeat("%a*", 1000) + "b", strings.Repeat("aa/", 2000), false},
		{strings.Repeat("*a", 5001), a, false},
		{"*" + strings.Repeat("%a", 30) + "b", strings.Repeat(strings.Repeat("a", 60)+"/", 50), false},
		{long, long, true},
		{long, long + "a", false},
		{long + "a", long, false},
		{"*", long, true},
		{"%", long, true},
		{"%", long + "/", false},
		{strings.Repeat("*", 1<<20), long, true},
		{strings.Repeat("*", 1<<20) + "b", long, false},
		{strings.Repeat("*%", 1<<20), long, true},
		{strings.Repeat("%", 1<<20), "", true},
		{"b" + strings.Repeat("*", 1<<20), long, false},
	} {
		wantLike(t, c.pattern, c.s, c.want)
	}
}

// R3: an answer is new memory; one that is a piece of a long text doesn't keep that alive.
func TestMemory(t *testing.T) {
	given := strings.Repeat("a/b.", 14)
	norm, _ := name.Norm(given)
	for what, got := range map[string]string{"Norm": norm, "Up": name.Up(given)} {
		if got == "" || unsafe.StringData(got) == unsafe.StringData(given) {
			t.Errorf("%s: %q shares memory", what, got)
		}
	}
}

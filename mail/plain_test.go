package mail_test

import (
	"bytes"
	"fmt"
	"math/rand"
	"regexp"
	"strings"
	"testing"

	"cubby/api"
	"cubby/mail"
)

// The chapter's words, told once more by means that the program hasn't.

const last = 1<<32 - 1

const lastTime = 253402300799

const deleted = 8

var parts = regexp.MustCompile(`\A[A-Za-z0-9._-]+(/[A-Za-z0-9._-]+)*\z`)

func isName(s string) bool {
	return len(s) <= 60 && parts.MatchString(s) && (s == "INBOX" || strings.ToUpper(s) != "INBOX")
}

func isTime(t int64) bool { return t >= 0 && t <= lastTime }

func areFlags(flags int) bool { return flags >= 0 && flags <= 31 }

func plainRight(b api.Box) bool {
	ok := isName(b.Name) && b.Epoch >= 1 && b.Next >= 1 && len(b.Msgs) <= 500
	for k, m := range b.Msgs {
		ok = ok && m.UID >= 1 && m.UID < b.Next && (k == 0 || m.UID > b.Msgs[k-1].UID)
		ok = ok && isTime(m.Date) && areFlags(m.Flags) && len(m.Octets) <= 20000
	}
	return ok
}

// answer is what a call says, whichever call it is.
type answer struct {
	b    api.Box
	uids []uint32
	e    api.Errno
}

func no(e api.Errno) answer { return answer{e: e} }

// told answers all of a mailbox as a text; no octets are told as empty ones.
func told(b api.Box) string {
	var s strings.Builder
	fmt.Fprintf(&s, "%q %d %d", b.Name, b.Epoch, b.Next)
	for _, m := range b.Msgs {
		fmt.Fprintf(&s, " [%d %d %d %q]", m.UID, m.Date, m.Flags, m.Octets)
	}
	return s.String()
}

func (a answer) told() string {
	return told(a.b) + " " + fmt.Sprint(a.uids) + " " + a.e.Error()
}

// short cuts what is told of great mailboxes.
func short(s string) string {
	if len(s) > 600 {
		return fmt.Sprintf("%s.. of %d bytes", s[:600], len(s))
	}
	return s
}

func contains(l []uint32, uid uint32) bool {
	for _, v := range l {
		if v == uid {
			return true
		}
	}
	return false
}

func plainAppend(b api.Box, m api.Msg) answer {
	if !plainRight(b) || !isTime(m.Date) || !areFlags(m.Flags) {
		return no(api.ErrArg)
	}
	if len(m.Octets) > 20000 {
		return no(api.ErrLong)
	}
	if len(b.Msgs) == 500 {
		return no(api.ErrMany)
	}
	if b.Next == last {
		return no(api.ErrFull)
	}
	uid := b.Next
	to := api.Box{Name: b.Name, Epoch: b.Epoch, Next: uid + 1}
	for _, v := range b.Msgs {
		to.Msgs = append(to.Msgs, v)
	}
	to.Msgs = append(to.Msgs, api.Msg{UID: uid, Date: m.Date, Flags: m.Flags, Octets: m.Octets})
	return answer{to, []uint32{uid}, api.OK}
}

func plainStore(b api.Box, uids []uint32, flags, how int) answer {
	if !plainRight(b) {
		return no(api.ErrArg)
	}
	to := api.Box{Name: b.Name, Epoch: b.Epoch, Next: b.Next}
	for _, m := range b.Msgs {
		if contains(uids, m.UID) {
			was := m.Flags
			m.Flags = 0
			for bit := 1; bit <= 16; bit *= 2 {
				is, by := was&bit > 0, flags&bit > 0
				if how == 0 && by || how == 1 && (is || by) || how == 2 && is && !by || (how < 0 || how > 2) && is {
					m.Flags += bit
				}
			}
		}
		to.Msgs = append(to.Msgs, m)
	}
	return answer{to, nil, api.OK}
}

func plainExpunge(b api.Box, uids []uint32, all bool) answer {
	if !plainRight(b) {
		return no(api.ErrArg)
	}
	a := answer{b: api.Box{Name: b.Name, Epoch: b.Epoch, Next: b.Next}}
	for _, m := range b.Msgs {
		switch {
		case m.Flags/deleted%2 == 1 && all, m.Flags/deleted%2 == 1 && contains(uids, m.UID):
			a.uids = append(a.uids, m.UID)
		default:
			a.b.Msgs = append(a.b.Msgs, m)
		}
	}
	return a
}

func plainCopy(from, to api.Box, uids []uint32) answer {
	if !plainRight(from) || !plainRight(to) {
		return no(api.ErrArg)
	}
	a := answer{b: to}
	a.b.Msgs = append([]api.Msg{}, to.Msgs...)
	for _, m := range from.Msgs {
		if !contains(uids, m.UID) {
			continue
		}
		if len(a.b.Msgs) == 500 {
			return no(api.ErrMany)
		}
		if a.b.Next == last {
			return no(api.ErrFull)
		}
		m.UID = a.b.Next
		a.b.Next++
		a.b.Msgs = append(a.b.Msgs, m)
		a.uids = append(a.uids, m.UID)
	}
	return a
}

// What the calls say, as answers.

func doAppend(b api.Box, m api.Msg) answer {
	to, uid, e := mail.Append(b, m)
	if uid == 0 {
		return answer{to, nil, e}
	}
	return answer{to, []uint32{uid}, e}
}

func doStore(b api.Box, uids []uint32, flags, how int) answer {
	to, e := mail.Store(b, uids, flags, how)
	return answer{to, nil, e}
}

func doExpunge(b api.Box, uids []uint32, all bool) answer {
	to, l, e := mail.Expunge(b, uids, all)
	return answer{to, l, e}
}

func doCopy(from, to api.Box, uids []uint32) answer {
	b, l, e := mail.Copy(from, to, uids)
	return answer{b, l, e}
}

// want holds an answer against the one that is asked for, and what an answer always has.
func want(t *testing.T, what any, got, want answer) {
	t.Helper()
	if got, want := got.told(), want.told(); got != want {
		t.Errorf("%v: %s\nwant %s", what, short(got), short(want))
	}
	if got.e == api.OK && !mail.Right(got.b) {
		t.Errorf("%v: the mailbox isn't right", what)
	}
}

// wantAppend, and those like it, hold a call against the chapter's words, and what it was given against what that was.

func wantAppend(t *testing.T, what any, b api.Box, m api.Msg) {
	t.Helper()
	before := told(b)
	want(t, what, doAppend(b, m), plainAppend(b, m))
	wantKept(t, what, b, before)
}

func wantStore(t *testing.T, what any, b api.Box, uids []uint32, flags, how int) {
	t.Helper()
	before, list := told(b), fmt.Sprint(uids)
	want(t, what, doStore(b, uids, flags, how), plainStore(b, uids, flags, how))
	wantKept(t, what, b, before)
	wantList(t, what, uids, list)
}

func wantExpunge(t *testing.T, what any, b api.Box, uids []uint32, all bool) {
	t.Helper()
	before, list := told(b), fmt.Sprint(uids)
	want(t, what, doExpunge(b, uids, all), plainExpunge(b, uids, all))
	wantKept(t, what, b, before)
	wantList(t, what, uids, list)
}

func wantCopy(t *testing.T, what any, from, to api.Box, uids []uint32) {
	t.Helper()
	beforeFrom, beforeTo, list := told(from), told(to), fmt.Sprint(uids)
	want(t, what, doCopy(from, to, uids), plainCopy(from, to, uids))
	wantKept(t, what, from, beforeFrom)
	wantKept(t, what, to, beforeTo)
	wantList(t, what, uids, list)
}

func wantKept(t *testing.T, what any, b api.Box, before string) {
	t.Helper()
	if after := told(b); after != before {
		t.Errorf("%v: the mailbox became %s, of %s", what, short(after), short(before))
	}
}

func wantList(t *testing.T, what any, uids []uint32, before string) {
	t.Helper()
	if after := fmt.Sprint(uids); after != before {
		t.Errorf("%v: the UIDs became %s, of %s", what, short(after), short(before))
	}
}

// Mailboxes to begin with.

// some answers a mailbox with all flags here and there, and gaps between the UIDs.
func some() api.Box {
	return api.Box{Name: "lists/go", Epoch: 3, Next: 20, Msgs: []api.Msg{
		{UID: 2, Date: 7, Flags: deleted, Octets: []byte("one")},
		{UID: 3, Date: lastTime, Flags: 0},
		{UID: 7, Date: 0, Flags: 31, Octets: []byte("three\r\n")},
		{UID: 8, Date: 99, Flags: 23, Octets: []byte("four")},
		{UID: 19, Date: 5, Flags: deleted | 1, Octets: bytes.Repeat([]byte("5"), 300)},
	}}
}

// plenty answers a mailbox of n messages, of the UIDs 1 to n.
func plenty(n int) api.Box {
	b := api.Box{Name: "INBOX", Epoch: 1, Next: uint32(n) + 1}
	for k := range n {
		b.Msgs = append(b.Msgs, api.Msg{UID: uint32(k) + 1, Date: int64(k), Flags: k % 32, Octets: []byte{byte(k), 'x'}})
	}
	return b
}

// late answers a mailbox that has n messages, of the last UIDs below next.
func late(n int, next uint32) api.Box {
	b := plenty(n)
	b.Next = next
	for k := range b.Msgs {
		b.Msgs[k].UID = next - uint32(n-k)
	}
	return b
}

// wrongs answers mailboxes that aren't right, by what is wrong with them.
func wrongs() map[string]api.Box {
	l := map[string]api.Box{"zero": {}, "many": plenty(501), "very many": plenty(3000)}
	for what, turn := range map[string]func(b *api.Box){
		"no name":        func(b *api.Box) { b.Name = "" },
		"inbox":          func(b *api.Box) { b.Name = "inbox" },
		"a long name":    func(b *api.Box) { b.Name = strings.Repeat("n", 61) },
		"an empty part":  func(b *api.Box) { b.Name = "a//b" },
		"epoch 0":        func(b *api.Box) { b.Epoch = 0 },
		"next 0":         func(b *api.Box) { b.Next = 0 },
		"next is there":  func(b *api.Box) { b.Next = 19 },
		"next is below":  func(b *api.Box) { b.Next = 5 },
		"UID 0":          func(b *api.Box) { b.Msgs[0].UID = 0 },
		"a UID twice":    func(b *api.Box) { b.Msgs[2].UID = 8 },
		"a UID falls":    func(b *api.Box) { b.Msgs[1].UID = 1 },
		"the first time": func(b *api.Box) { b.Msgs[0].Date = -1 },
		"the last time":  func(b *api.Box) { b.Msgs[4].Date = lastTime + 1 },
		"first flags":    func(b *api.Box) { b.Msgs[0].Flags = -1 },
		"last flags":     func(b *api.Box) { b.Msgs[4].Flags = 32 },
		"first octets":   func(b *api.Box) { b.Msgs[0].Octets = make([]byte, 20001) },
		"last octets":    func(b *api.Box) { b.Msgs[4].Octets = make([]byte, 20001) },
		"the last UID":   func(b *api.Box) { b.Msgs[4].UID, b.Next = last, last },
		"no message":     func(b *api.Box) { b.Msgs[3] = api.Msg{} },
	} {
		b := some()
		turn(&b)
		l[what] = b
	}
	return l
}

// random picks of what it is given.
type random struct{ *rand.Rand }

func (r random) pick(of ...int64) int64 { return of[r.Intn(len(of))] }

// box answers a mailbox that is nearly always right.
func (r random) box() api.Box {
	b := api.Box{Name: []string{"a", "INBOX", "lists/go", "inbox"}[r.pick(0, 0, 0, 0, 0, 0, 0, 1, 1, 1, 1, 2, 2, 2, 2, 3)], Epoch: uint32(r.pick(1, 1, 2, 9, last))}
	if r.Intn(40) == 0 {
		b.Epoch = 0
	}
	n := int(r.pick(0, 1, 2, 3, 5, 8, 12))
	if r.Intn(25) == 0 {
		n = 493 + r.Intn(9)
	}
	uid := int64(r.Intn(4))
	for range n {
		uid += r.pick(1, 1, 1, 1, 2, 3)
		b.Msgs = append(b.Msgs, api.Msg{UID: uint32(uid), Date: r.Int63n(lastTime + 1), Flags: r.Intn(32), Octets: bytes.Repeat([]byte{byte(r.Intn(256))}, r.Intn(5))})
	}
	b.Next = uint32(uid + r.pick(1, 1, 1, 2, 50))
	if r.Intn(6) == 0 {
		by := uint32(last-r.pick(0, 1, 2, 3, 9)) - b.Next
		b.Next += by
		for k := range b.Msgs {
			b.Msgs[k].UID += by
		}
	}
	if n > 0 && r.Intn(30) == 0 {
		r.harm(&b.Msgs[r.Intn(n)])
	}
	return b
}

func (r random) harm(m *api.Msg) {
	switch r.Intn(4) {
	case 0:
		m.UID += uint32(r.pick(1, 2, 3, last, last-1))
	case 1:
		m.Date = r.pick(-1, lastTime+1)
	case 2:
		m.Flags = int(r.pick(-1, 32))
	case 3:
		m.Octets = make([]byte, 20001)
	}
}

// uids answers some UIDs of a mailbox, perhaps twice, and some others, in any order.
func (r random) uids(b api.Box) []uint32 {
	var l []uint32
	for range r.Intn(2 + len(b.Msgs)) {
		uid := uint32(r.Int63n(int64(b.Next) + 3))
		if len(b.Msgs) > 0 && r.Intn(4) > 0 {
			uid = b.Msgs[r.Intn(len(b.Msgs))].UID
		}
		l = append(l, uid)
	}
	return l
}

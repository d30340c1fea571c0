package mail_test

import (
	"bytes"
	"slices"
	"strings"
	"testing"
	"unsafe"

	"cubby/api"
	"cubby/mail"
)

// R3

// given is a mailbox whose lists have spare room with something in it, and stand in one memory as far as they can.
type given struct {
	b             api.Box
	octets, whole []byte
	msgs          []api.Msg
}

// give answers a mailbox of three messages, which share their octets.
func give() given {
	whole := append([]byte("hello"), bytes.Repeat([]byte{0xaa}, 100)...)
	g := given{octets: whole[:5], whole: whole}
	g.msgs = []api.Msg{{UID: 2, Flags: deleted, Octets: g.octets}, {UID: 4, Octets: g.octets}, {UID: 6, Flags: deleted, Octets: g.octets}, {UID: 70, Date: 70}, {UID: 80, Date: 80}}
	g.b = api.Box{Name: strings.Clone("lists/go"), Epoch: 1, Next: 9, Msgs: g.msgs[:3]}
	return g
}

// isKept tells whether all of the memory is what it was.
func (g given) isKept() bool {
	was := give()
	return bytes.Equal(g.whole, was.whole) && slices.EqualFunc(g.msgs, was.msgs, func(a, b api.Msg) bool {
		return a.UID == b.UID && a.Date == b.Date && a.Flags == b.Flags && bytes.Equal(a.Octets, b.Octets)
	})
}

// spoil writes over all of it, spare room too.
func (g given) spoil() {
	for k := range g.whole {
		g.whole[k] = 0x55
	}
	for k := range g.msgs {
		g.msgs[k] = api.Msg{UID: 99, Date: 99, Flags: 99}
	}
}

// spoil writes over all of an answer, spare room too.
func spoil(b api.Box, uids []uint32) {
	for k := range b.Msgs {
		spoilBytes(b.Msgs[k].Octets)
	}
	msgs := b.Msgs[:cap(b.Msgs)]
	for k := range msgs {
		msgs[k] = api.Msg{UID: 77, Date: 77, Flags: 77}
	}
	for k := range uids[:cap(uids)] {
		uids[:cap(uids)][k] = 77
	}
}

func spoilBytes(b []byte) {
	b = b[:cap(b)]
	for k := range b {
		b[k] = 0x77
	}
}

// calls answers all calls that tell of mailboxes, of those they are given.
func calls() map[string]func(from, to api.Box, uids []uint32) (api.Box, []uint32, api.Errno) {
	return map[string]func(from, to api.Box, uids []uint32) (api.Box, []uint32, api.Errno){
		"append": func(from, to api.Box, uids []uint32) (api.Box, []uint32, api.Errno) {
			b, uid, e := mail.Append(from, to.Msgs[0])
			return b, []uint32{uid}, e
		},
		"store": func(from, to api.Box, uids []uint32) (api.Box, []uint32, api.Errno) {
			b, e := mail.Store(from, uids, 5, 1)
			return b, nil, e
		},
		"store of none": func(from, to api.Box, uids []uint32) (api.Box, []uint32, api.Errno) {
			b, e := mail.Store(from, nil, 5, 1)
			return b, nil, e
		},
		"expunge": func(from, to api.Box, uids []uint32) (api.Box, []uint32, api.Errno) {
			return mail.Expunge(from, uids[:1], false)
		},
		"expunge of all": func(from, to api.Box, uids []uint32) (api.Box, []uint32, api.Errno) {
			return mail.Expunge(from, uids, true)
		},
		"expunge of none": func(from, to api.Box, uids []uint32) (api.Box, []uint32, api.Errno) {
			return mail.Expunge(from, nil, false)
		},
		"copy": mail.Copy,
		"copy of none": func(from, to api.Box, uids []uint32) (api.Box, []uint32, api.Errno) {
			return mail.Copy(from, to, nil)
		},
		"copy to itself": func(from, to api.Box, uids []uint32) (api.Box, []uint32, api.Errno) {
			return mail.Copy(from, from, uids)
		},
	}
}

func TestMemory(t *testing.T) {
	for what, call := range calls() {
		from, to := give(), give()
		list := []uint32{4, 2, 4, 6, 500, 600}
		uids := list[:4]
		first, l, e := call(from.b, to.b, uids)
		if e != api.OK {
			t.Fatal(what, e)
		}
		second, l2, _ := call(from.b, to.b, uids)
		before := answer{second, l2, e}.told()
		spoil(first, l)
		if !from.isKept() || !to.isKept() || !slices.Equal(list, []uint32{4, 2, 4, 6, 500, 600}) {
			t.Error(what, "what was handed in, or spare room of it, was changed")
		}
		from.spoil()
		to.spoil()
		clear(list)
		if after := (answer{second, l2, e}).told(); after != before {
			t.Error(what, "an answer shares memory:", after, "was", before)
		}
	}
}

// No two messages of an answer share octets, though those of the mailbox did.
func TestMemoryOfMessages(t *testing.T) {
	for what, call := range calls() {
		from, to := give(), give()
		b, _, _ := call(from.b, to.b, []uint32{2, 4, 6})
		for k := range b.Msgs {
			spoilBytes(b.Msgs[k].Octets)
			for n, m := range b.Msgs {
				if n > k && string(m.Octets) != "hello" {
					t.Error(what, "two messages share memory:", k, n)
				}
			}
		}
	}
}

// Names are new memory, too.
func TestMemoryOfNames(t *testing.T) {
	isNew := func(what, given, got string) {
		if got != given || unsafe.StringData(got) == unsafe.StringData(given) {
			t.Error(what, "the name shares memory")
		}
	}
	for what, call := range calls() {
		from, to := give(), give()
		b, _, _ := call(from.b, to.b, []uint32{2})
		isNew(what, from.b.Name, b.Name)
		isNew(what, to.b.Name, b.Name)
	}
	name := strings.Clone("lists/go")
	b, _ := mail.New(name, 1)
	isNew("new", name, b.Name)
}

// Right, At and Same change nothing.
func TestMemoryOfQuestions(t *testing.T) {
	a, b := give(), give()
	if !mail.Right(a.b) || mail.At(a.b, 6) != 2 || !mail.Same(a.b, b.b) || !a.isKept() || !b.isKept() {
		t.Error("something was changed")
	}
}

// A call that was refused has changed nothing.
func TestMemoryOfRefusals(t *testing.T) {
	for _, to := range []api.Box{late(498, last-9), late(2, last-2), {}, plenty(501)} {
		to.Msgs = append(make([]api.Msg, 0, 600), to.Msgs...)
		from, before, room := give(), told(to), to.Msgs[:600]
		if _, _, e := mail.Copy(from.b, to, []uint32{2, 4, 6}); e == api.OK {
			t.Error("it was copied")
		}
		if !from.isKept() || told(to) != before || slices.ContainsFunc(room[len(to.Msgs):], func(m api.Msg) bool { return m.UID != 0 || m.Octets != nil }) {
			t.Error("something was changed")
		}
	}
}

package store_test

import (
	"bytes"
	"crypto/sha256"
	"encoding/binary"
	"fmt"
	"hash/crc32"
	"maps"
	"regexp"
	"slices"
	"strings"
	"testing"

	"cubby/api"
	"cubby/disk"
	"cubby/store"
)

// The chapter's words, told once more by means that the program hasn't.

const lastUID = 1<<32 - 1

// number answers the last bytes of a number, the greatest first.
func number(v int64, size int) []byte { return binary.BigEndian.AppendUint64(nil, uint64(v))[8-size:] }

func text(s string) []byte { return append(number(int64(len(s)), 2), s...) }

func plainFrame(kind byte, payload []byte) []byte {
	b := append([]byte{'c', 'u', 'b', kind}, number(int64(len(payload)), 4)...)
	b = append(b, number(int64(crc32.ChecksumIEEE(b)), 4)...)
	digest := sha256.Sum256(payload)
	return slices.Concat(b, digest[:], payload)
}

func boxFrame(epoch int64, name string) []byte {
	return plainFrame(1, append(number(epoch, 4), text(name)...))
}

func messageFrame(epoch int64, name string, m api.Msg) []byte {
	head := slices.Concat(number(epoch, 4), number(int64(m.UID), 4), number(m.Date, 6), number(int64(m.Flags), 1))
	return plainFrame(2, slices.Concat(head, text(name), m.Octets))
}

func goneFrame(epoch, uid int64) []byte {
	return plainFrame(3, append(number(epoch, 4), number(uid, 4)...))
}

func plainPage(kind byte, payload []byte) []byte {
	b := slices.Concat([]byte{'p', 'a', 'g', kind}, number(int64(len(payload)), 4), payload)
	return append(b, number(int64(crc32.ChecksumIEEE(b)), 4)...)
}

// plainBox is a mailbox, its log, and where in it each message's record begins.
type plainBox struct {
	api.Box
	log []byte
	at  []int
}

func (b plainBox) index() []byte {
	payload := slices.Concat(text(b.Name), number(int64(b.Epoch), 4), number(int64(b.Next), 4), number(int64(len(b.log)), 4), number(int64(len(b.Msgs)), 2))
	for k, m := range b.Msgs {
		payload = slices.Concat(payload, number(int64(m.UID), 4), number(int64(b.at[k]), 4))
	}
	return plainPage(1, payload)
}

func (b plainBox) flags() []byte {
	payload := append(number(int64(b.Epoch), 4), number(int64(len(b.Msgs)), 2)...)
	for _, m := range b.Msgs {
		payload = slices.Concat(payload, number(int64(m.UID), 4), number(int64(m.Flags), 1))
	}
	return plainPage(2, payload)
}

// size is how many bytes both pages have.
func (b plainBox) size() int { return len(b.index()) + len(b.flags()) }

// with answers b with a message behind, that has the next UID.
func (b plainBox) with(m api.Msg) plainBox {
	m.UID = b.Next
	b.Msgs = append(slices.Clone(b.Msgs), m)
	b.at = append(slices.Clone(b.at), len(b.log))
	b.log = slices.Concat(b.log, messageFrame(int64(b.Epoch), b.Name, m))
	b.Next++
	return b
}

// without answers b, of which a message is gone.
func (b plainBox) without(uid uint32) plainBox {
	for k, m := range b.Msgs {
		if m.UID == uid {
			b.Msgs = slices.Delete(slices.Clone(b.Msgs), k, k+1)
			b.at = slices.Delete(slices.Clone(b.at), k, k+1)
			break
		}
	}
	b.log = slices.Concat(b.log, goneFrame(int64(b.Epoch), int64(uid)))
	return b
}

func newBox(name string) plainBox {
	return plainBox{Box: api.Box{Name: name, Epoch: 1, Next: 1}, log: boxFrame(1, name)}
}

// plainStore is mailboxes by their numbers.
type plainStore map[int]plainBox

func (s plainStore) tree() []byte {
	numbers := slices.Sorted(maps.Keys(s))
	payload := []byte{byte(len(numbers))}
	for _, n := range numbers {
		payload = slices.Concat(payload, []byte{byte(n)}, text(s[n].Name))
	}
	return plainPage(3, payload)
}

func (s plainStore) names() []string {
	var l []string
	for _, b := range s {
		l = append(l, b.Name)
	}
	slices.Sort(l)
	return l
}

func (s plainStore) number(name string) int {
	for n, b := range s {
		if b.Name == name {
			return n
		}
	}
	return -1
}

// with answers s with another mailbox in the place of one.
func (s plainStore) with(n int, b plainBox) plainStore {
	s = maps.Clone(s)
	s[n] = b
	return s
}

// files are all that a whole store has.
func (s plainStore) files() map[string][]byte {
	l := map[string][]byte{"tree": s.tree()}
	for n, b := range s {
		l[fmt.Sprint("log.", n)] = b.log
		l[fmt.Sprint("idx.", n)] = b.index()
		l[fmt.Sprint("flg.", n)] = b.flags()
	}
	return l
}

// step is one change of a disk.
type step struct {
	what, name string
	b          []byte
}

func (x step) do(d *disk.Disk) api.Errno {
	switch x.what {
	case "append":
		return d.Append(x.name, x.b)
	case "sync":
		return d.Sync(x.name)
	case "remove":
		return d.Remove(x.name)
	}
	return d.Rename("new", x.name)
}

func laid(name string, b []byte) []step {
	return []step{{"append", "new", b}, {"sync", "new", nil}, {"rename", name, nil}}
}

func grown(n int, frames ...[]byte) []step {
	var l []step
	for _, b := range frames {
		l = append(l, step{"append", fmt.Sprint("log.", n), b})
	}
	return append(l, step{"sync", fmt.Sprint("log.", n), nil})
}

func paged(n int, b plainBox) []step {
	return append(laid(fmt.Sprint("flg.", n), b.flags()), laid(fmt.Sprint("idx.", n), b.index())...)
}

// inTurn does one step behind the other, up to the first error.
func inTurn(d *disk.Disk, steps []step) api.Errno {
	for _, x := range steps {
		if e := x.do(d); e != api.OK {
			return e
		}
	}
	return api.OK
}

// plan is what a call should say, what it should do, and how many bytes have to have room for that.
type plan struct {
	e     api.Errno
	uids  []uint32
	steps []step
	need  int
	after plainStore
}

func wrong(s plainStore, e api.Errno) plan { return plan{e: e, after: s} }

// fits answers a plan, or that there is no room for it.
func (p plan) fits(s plainStore, room int) plan {
	if p.need > room {
		return wrong(s, api.ErrFull)
	}
	return p
}

var parts = regexp.MustCompile(`\A[A-Za-z0-9._-]+(/[A-Za-z0-9._-]+)*\z`)

func isName(s string) bool {
	return len(s) <= 60 && parts.MatchString(s) && (s == "INBOX" || strings.ToUpper(s) != "INBOX")
}

func (s plainStore) create(name string, room int) plan {
	if s.number(name) >= 0 {
		return wrong(s, api.ErrTwice)
	}
	if !isName(name) {
		return wrong(s, api.ErrArg)
	}
	if len(s) == 16 {
		return wrong(s, api.ErrMany)
	}
	n := 0
	for s[n].Name != "" {
		n++
	}
	b := newBox(name)
	after := s.with(n, b)
	steps := slices.Concat(grown(n, b.log), paged(n, b), laid("tree", after.tree()))
	return plan{steps: steps, need: len(b.log) + b.size() + len(after.tree()), after: after}.fits(s, room)
}

// wrongMessage answers what is wrong about a message that comes to b.
func wrongMessage(b plainBox, m api.Msg) api.Errno {
	switch {
	case m.Date < 0 || m.Date > 253402300799 || m.Flags < 0 || m.Flags > 31:
		return api.ErrArg
	case len(m.Octets) > 20000:
		return api.ErrLong
	case len(b.Msgs) == 500:
		return api.ErrMany
	case b.Next == lastUID:
		return api.ErrFull
	}
	return api.OK
}

// come is the plan of messages that come to a mailbox.
func (s plainStore) come(name string, l []api.Msg, room int) plan {
	n := s.number(name)
	b := s[n]
	var p plan
	var frames [][]byte
	for _, m := range l {
		if e := wrongMessage(b, m); e != api.OK {
			return wrong(s, e)
		}
		p.uids = append(p.uids, b.Next)
		was := len(b.log)
		b = b.with(m)
		frames = append(frames, b.log[was:])
	}
	if len(l) == 0 {
		return wrong(s, api.OK)
	}
	p.steps = append(grown(n, frames...), paged(n, b)...)
	p.need = len(slices.Concat(frames...)) + b.size()
	p.after = s.with(n, b)
	return p.fits(s, room)
}

func (s plainStore) append(name string, m api.Msg, room int) plan {
	if s.number(name) < 0 {
		return wrong(s, api.ErrNone)
	}
	return s.come(name, []api.Msg{m}, room)
}

func (s plainStore) copy(from, to string, uids []uint32, room int) plan {
	if s.number(from) < 0 || s.number(to) < 0 {
		return wrong(s, api.ErrNone)
	}
	var l []api.Msg
	for _, m := range s[s.number(from)].Msgs {
		if slices.Contains(uids, m.UID) {
			l = append(l, m)
		}
	}
	return s.come(to, l, room)
}

func (s plainStore) store(name string, uids []uint32, flags, how, room int) plan {
	n := s.number(name)
	if n < 0 {
		return wrong(s, api.ErrNone)
	}
	b := s[n]
	b.Msgs = slices.Clone(b.Msgs)
	for k := range b.Msgs {
		m := &b.Msgs[k]
		if slices.Contains(uids, m.UID) {
			was := m.Flags
			m.Flags = 0
			for bit := 1; bit <= 16; bit *= 2 {
				is, by := was&bit > 0, flags&bit > 0
				if how == 0 && by || how == 1 && (is || by) || how == 2 && is && !by || (how < 0 || how > 2) && is {
					m.Flags += bit
				}
			}
		}
	}
	return plan{steps: paged(n, b), need: b.size(), after: s.with(n, b)}.fits(s, room)
}

func (s plainStore) expunge(name string, uids []uint32, all bool, room int) plan {
	n := s.number(name)
	if n < 0 {
		return wrong(s, api.ErrNone)
	}
	b := s[n]
	var p plan
	var frames [][]byte
	for _, m := range s[n].Msgs {
		if m.Flags&8 == 8 && (all || slices.Contains(uids, m.UID)) {
			b = b.without(m.UID)
			p.uids = append(p.uids, m.UID)
			frames = append(frames, goneFrame(int64(b.Epoch), int64(m.UID)))
		}
	}
	if len(p.uids) == 0 {
		return wrong(s, api.OK)
	}
	p.steps = append(grown(n, frames...), paged(n, b)...)
	p.need = len(slices.Concat(frames...)) + b.size()
	p.after = s.with(n, b)
	return p.fits(s, room)
}

// call is something that a store is asked for: what it should be, and what it is.
type call struct {
	what string
	plan func(s plainStore, room int) plan
	ask  func(s *store.Store) ([]uint32, api.Errno)
}

func createCall(name string) call {
	return call{fmt.Sprintf("Create %q", name),
		func(s plainStore, room int) plan { return s.create(name, room) },
		func(s *store.Store) ([]uint32, api.Errno) { return nil, s.Create(name) }}
}

func appendCall(name string, m api.Msg) call {
	return call{fmt.Sprintf("Append to %q of %d octets", name, len(m.Octets)),
		func(s plainStore, room int) plan { return s.append(name, m, room) },
		func(s *store.Store) ([]uint32, api.Errno) {
			uid, e := s.Append(name, m)
			if uid == 0 {
				return nil, e
			}
			return []uint32{uid}, e
		}}
}

func storeCall(name string, uids []uint32, flags, how int) call {
	return call{fmt.Sprintf("Store to %q of %v", name, short(uids)),
		func(s plainStore, room int) plan { return s.store(name, uids, flags, how, room) },
		func(s *store.Store) ([]uint32, api.Errno) { return nil, s.Store(name, uids, flags, how) }}
}

func expungeCall(name string, uids []uint32, all bool) call {
	return call{fmt.Sprintf("Expunge of %q, %v, %v", name, short(uids), all),
		func(s plainStore, room int) plan { return s.expunge(name, uids, all, room) },
		func(s *store.Store) ([]uint32, api.Errno) { return s.Expunge(name, uids, all) }}
}

func copyCall(from, to string, uids []uint32) call {
	return call{fmt.Sprintf("Copy of %q to %q, %v", from, to, short(uids)),
		func(s plainStore, room int) plan { return s.copy(from, to, uids, room) },
		func(s *store.Store) ([]uint32, api.Errno) { return s.Copy(from, to, uids) }}
}

func short(uids []uint32) []uint32 { return uids[:min(len(uids), 20)] }

// picture tells all of a disk that can be seen while it has power.
func picture(d *disk.Disk) string {
	var s strings.Builder
	fmt.Fprintf(&s, "room %d lost %v", d.Room(), d.Lost())
	for _, n := range d.Names() {
		b, e := d.Read(n)
		fmt.Fprintf(&s, " | %s %x %d %v", n, b, e, d.Safe(n))
	}
	return s.String()
}

func wantPicture(t *testing.T, what any, got, want *disk.Disk) {
	t.Helper()
	if got, want := picture(got), picture(want); got != want {
		t.Errorf("%v: the disk is\n%s\nwant\n%s", what, cut(got), cut(want))
	}
}

func cut(s string) string {
	if len(s) > 3000 {
		return fmt.Sprintf("%s.. of %d bytes", s[:3000], len(s))
	}
	return s
}

func want(t *testing.T, what any, got, want api.Errno) {
	t.Helper()
	if got != want {
		t.Errorf("%v: %d, want %d", what, got, want)
	}
}

func sameBox(a, b api.Box) bool {
	same := func(a, b api.Msg) bool {
		return a.UID == b.UID && a.Date == b.Date && a.Flags == b.Flags && bytes.Equal(a.Octets, b.Octets)
	}
	return a.Name == b.Name && a.Epoch == b.Epoch && a.Next == b.Next && slices.EqualFunc(a.Msgs, b.Msgs, same)
}

// wantStore holds a store, and its disk's files, against what they should be.
func wantStore(t *testing.T, what any, d *disk.Disk, s *store.Store, m plainStore) {
	t.Helper()
	if got := s.Names(); !slices.Equal(got, m.names()) {
		t.Errorf("%v: the names are %q, want %q", what, got, m.names())
	}
	for n, b := range m {
		if got := s.Number(b.Name); got != n {
			t.Errorf("%v: %q has the number %d, want %d", what, b.Name, got, n)
		}
		got, e := s.Load(b.Name)
		if e != api.OK || !sameBox(got, b.Box) {
			t.Errorf("%v: %q is %s, %d, want %s", what, b.Name, cut(fmt.Sprint(got)), e, cut(fmt.Sprint(b.Box)))
		}
		whole, e := store.Whole(d, n)
		if e != api.OK || !sameBox(whole, b.Box) {
			t.Errorf("%v: %d is %s, %d, want %s", what, n, cut(fmt.Sprint(whole)), e, cut(fmt.Sprint(b.Box)))
		}
	}
	if got := store.Logs(d); !slices.Equal(got, slices.Sorted(maps.Keys(m))) {
		t.Errorf("%v: logs %v", what, got)
	}
	if got, e := store.Tree(d); e != api.OK || !bytes.Equal(got, m.tree()) {
		t.Errorf("%v: the tree should be %x, is %x, %d", what, m.tree(), got, e)
	}
}

// diskOf answers a disk that has these files, safe.
func diskOf(t *testing.T, capacity int, files map[string][]byte) *disk.Disk {
	t.Helper()
	d, e := disk.New(capacity)
	want(t, "New", e, api.OK)
	for name, b := range files {
		want(t, name, d.Harm(name, b), api.OK)
	}
	return d
}

// opened answers the disk of a store, and the store.
func opened(t *testing.T, capacity int, m plainStore) (*disk.Disk, *store.Store) {
	t.Helper()
	d := diskOf(t, capacity, m.files())
	s, e := store.Open(d)
	if e != api.OK {
		t.Fatalf("Open: %d of %s", e, cut(picture(d)))
	}
	return d, s
}

// leave takes a disk's room, but for so many bytes, by a file that no store looks at.
func leave(t *testing.T, d *disk.Disk, room int) {
	t.Helper()
	want(t, "leave", d.Harm("bad.0.full", make([]byte, d.Room()-room)), api.OK)
}

// some is a store of three mailboxes, of which one has had messages that are gone, and other epochs ahead.
func some() plainStore {
	in := newBox("INBOX").with(api.Msg{Date: 5, Octets: []byte("one")}).with(api.Msg{Date: 6, Flags: 9, Octets: []byte("two\r\n\r\n")})
	in = in.with(api.Msg{Flags: 8}).with(api.Msg{Date: 253402300799, Flags: 31, Octets: make([]byte, 300)}).without(3)
	old := plainBox{Box: api.Box{Name: "old/box", Epoch: 7, Next: 1}, log: slices.Concat(boxFrame(2, "older"), messageFrame(2, "older", api.Msg{UID: 5}), goneFrame(2, 5), boxFrame(7, "old/box"))}
	old = old.with(api.Msg{Flags: 2, Octets: []byte("Subject: old\r\n\r\n")}).with(api.Msg{Date: 1, Flags: 8})
	return plainStore{0: in, 2: newBox("Z"), 3: old}
}

package repair_test

import (
	"bytes"
	"crypto/sha256"
	"encoding/binary"
	"fmt"
	"hash/crc32"
	"regexp"
	"slices"
	"strings"
	"testing"

	"cubby/api"
	"cubby/disk"
	"cubby/repair"
	"cubby/store"
)

// The chapter's words, told once more by means that the program hasn't.

const lastUID = 1<<32 - 1

// number answers the last bytes of a number, the greatest first.
func number(v int64, size int) []byte { return binary.BigEndian.AppendUint64(nil, uint64(v))[8-size:] }

func text(s string) []byte { return append(number(int64(len(s)), 2), s...) }

// told answers the number that some bytes are.
func told(b []byte) int64 {
	v := int64(0)
	for _, c := range b {
		v = v*256 + int64(c)
	}
	return v
}

func plainFrame(kind byte, payload []byte) []byte {
	b := append([]byte{'c', 'u', 'b', kind}, number(int64(len(payload)), 4)...)
	b = append(b, number(int64(crc32.ChecksumIEEE(b)), 4)...)
	digest := sha256.Sum256(payload)
	return slices.Concat(b, digest[:], payload)
}

func boxFrame(epoch int64, name string) []byte {
	return plainFrame(1, append(number(epoch, 4), text(name)...))
}

func messageFrame(epoch int64, name string, m api.Msg) []byte {
	head := slices.Concat(number(epoch, 4), number(int64(m.UID), 4), number(m.Date, 6), number(int64(m.Flags), 1))
	return plainFrame(2, slices.Concat(head, text(name), m.Octets))
}

func goneFrame(epoch, uid int64) []byte {
	return plainFrame(3, append(number(epoch, 4), number(uid, 4)...))
}

func plainPage(kind byte, payload []byte) []byte {
	b := slices.Concat([]byte{'p', 'a', 'g', kind}, number(int64(len(payload)), 4), payload)
	return append(b, number(int64(crc32.ChecksumIEEE(b)), 4)...)
}

// plainNote is a note, and where its record begins.
type plainNote struct {
	kind  byte
	epoch int64
	name  string
	msg   api.Msg
	at    int
}

var parts = regexp.MustCompile(`\A[A-Za-z0-9._-]+(/[A-Za-z0-9._-]+)*\z`)

func isName(s string) bool {
	return len(s) <= 60 && parts.MatchString(s) && (s == "INBOX" || strings.ToUpper(s) != "INBOX")
}

// noteOf answers the note of a payload, and whether it is one.
func noteOf(kind byte, b []byte) (plainNote, bool) {
	n := plainNote{kind: kind}
	named := func(b []byte) bool {
		if len(b) < 2 || len(b)-2 < int(told(b[:2])) {
			return false
		}
		n.name, n.msg.Octets = string(b[2:][:told(b[:2])]), b[2:][told(b[:2]):]
		return isName(n.name)
	}
	if len(b) < 4 || told(b[:4]) == 0 {
		return n, false
	}
	n.epoch = told(b[:4])
	switch kind {
	case 1:
		return n, named(b[4:]) && len(n.msg.Octets) == 0
	case 2:
		if len(b) < 15 {
			return n, false
		}
		n.msg.UID, n.msg.Date, n.msg.Flags = uint32(told(b[4:8])), told(b[8:14]), int(b[14])
		return n, n.msg.UID > 0 && n.msg.Date <= 253402300799 && b[14] < 32 && named(b[15:]) && len(n.msg.Octets) <= 20000
	}
	if len(b) != 8 {
		return n, false
	}
	n.msg.UID = uint32(told(b[4:8]))
	return n, n.msg.UID > 0
}

func isHead(b []byte) bool {
	return len(b) >= 44 && string(b[:3]) == "cub" && b[3] >= 1 && b[3] <= 3 && told(b[4:8]) <= 30000 && told(b[8:12]) == int64(crc32.ChecksumIEEE(b[:8]))
}

// scanned answers all notes, and whether the rest is torn.
func scanned(b []byte) ([]plainNote, bool) {
	var l []plainNote
	for at := 0; at < len(b); {
		if !isHead(b[at:]) {
			if next := bytes.Index(b[at+1:], []byte("cub")); next >= 0 {
				at += 1 + next
				continue
			}
			return l, true
		}
		end := at + 44 + int(told(b[at+4:at+8]))
		if end > len(b) {
			return l, true
		}
		payload := b[at+44 : end]
		digest := sha256.Sum256(payload)
		if n, is := noteOf(b[at+3], payload); is && bytes.Equal(digest[:], b[at+12:at+44]) {
			n.at = at
			l = append(l, n)
		}
		at = end
	}
	return l, false
}

// plainBox is a mailbox, its log, and where in it each message's record begins.
type plainBox struct {
	api.Box
	log   []byte
	at    []int
	torn  bool
	clean bool
}

// boxIn answers what a log says.
func boxIn(b []byte) plainBox {
	notes, torn := scanned(b)
	x := plainBox{Box: api.Box{Next: 1}, log: b, torn: torn, clean: true}
	for _, n := range notes {
		if n.kind != 3 {
			x.Name = n.name
		}
		x.Epoch = max(x.Epoch, uint32(n.epoch))
	}
	for k, n := range notes {
		if n.epoch == int64(x.Epoch) {
			x.Next = uint32(min(max(int64(x.Next), int64(n.msg.UID)+1), lastUID))
		}
		isGone := func(g plainNote) bool { return g.kind == 3 && g.epoch == n.epoch && g.msg.UID == n.msg.UID }
		if n.kind != 2 || slices.ContainsFunc(notes[k:], isGone) {
			continue
		}
		if len(x.Msgs) > 0 && x.Msgs[len(x.Msgs)-1].UID >= n.msg.UID || n.epoch != int64(x.Epoch) || n.msg.UID == lastUID {
			x.clean = false
		}
		x.Msgs = append(x.Msgs, n.msg)
		x.at = append(x.at, n.at)
	}
	return x
}

// anew answers what a mailbox becomes whose log can't stay.
func (b plainBox) anew(n int) plainBox {
	x := plainBox{Box: b.Box, clean: true}
	if b.Name == "" {
		x.Name = fmt.Sprint("lost.", n)
	}
	if b.Epoch == 0 {
		x.Epoch = 1
	}
	x.Msgs = slices.Clone(b.Msgs)
	if !b.clean {
		x.Epoch = uint32(min(int64(b.Epoch)+1, lastUID))
		x.Next = uint32(len(x.Msgs) + 1)
		for k := range x.Msgs {
			x.Msgs[k].UID = uint32(k + 1)
		}
	}
	x.log = boxFrame(int64(x.Epoch), x.Name)
	behind := uint32(1)
	for _, m := range x.Msgs {
		x.at = append(x.at, len(x.log))
		x.log = slices.Concat(x.log, messageFrame(int64(x.Epoch), x.Name, m))
		behind = m.UID + 1
	}
	if x.Next > behind {
		x.log = slices.Concat(x.log, goneFrame(int64(x.Epoch), int64(x.Next)-1))
	}
	return x
}

func (b plainBox) index() []byte {
	payload := slices.Concat(text(b.Name), number(int64(b.Epoch), 4), number(int64(b.Next), 4), number(int64(len(b.log)), 4), number(int64(len(b.Msgs)), 2))
	for k, m := range b.Msgs {
		payload = append(append(payload, number(int64(m.UID), 4)...), number(int64(b.at[k]), 4)...)
	}
	return plainPage(1, payload)
}

func (b plainBox) flags() []byte {
	payload := append(number(int64(b.Epoch), 4), number(int64(len(b.Msgs)), 2)...)
	for _, m := range b.Msgs {
		payload = append(append(payload, number(int64(m.UID), 4)...), byte(m.Flags))
	}
	return plainPage(2, payload)
}

// plainFlags are the flags of a page: an epoch, UIDs, and the flags of these.
type plainFlags struct {
	epoch int64
	uids  []int64
	flags []int
}

// flagsIn answers the flags that a page tells, and whether it is one.
func flagsIn(b []byte) (plainFlags, bool) {
	var f plainFlags
	if len(b) < 18 || !bytes.Equal(b, plainPage(2, b[8:len(b)-4])) {
		return f, false
	}
	f.epoch = told(b[8:12])
	last := int64(0)
	rest := b[14 : len(b)-4]
	if f.epoch == 0 || told(b[12:14]) > 500 || len(rest) != 5*int(told(b[12:14])) {
		return f, false
	}
	for ; len(rest) > 0; rest = rest[5:] {
		uid := told(rest[:4])
		if uid <= last || rest[4] > 31 {
			return f, false
		}
		last = uid
		f.uids, f.flags = append(f.uids, uid), append(f.flags, int(rest[4]))
	}
	return f, true
}

// withFlags answers b with what f tells of its messages.
func (b plainBox) withFlags(f plainFlags) plainBox {
	b.Msgs = slices.Clone(b.Msgs)
	for k, m := range b.Msgs {
		if at := slices.Index(f.uids, int64(m.UID)); at >= 0 {
			b.Msgs[k].Flags = f.flags[at]
		}
	}
	return b
}

// areOf tells whether f is of b's epoch, and its messages.
func (f plainFlags) areOf(b plainBox) bool {
	same := func(uid int64, m api.Msg) bool { return uid == int64(m.UID) }
	return f.epoch == int64(b.Epoch) && slices.EqualFunc(f.uids, b.Msgs, same)
}

// step is one change of a disk.
type step struct {
	what, name, to string
	b              []byte
}

func (x step) do(d *disk.Disk) api.Errno {
	switch x.what {
	case "append":
		return d.Append(x.name, x.b)
	case "sync":
		return d.Sync(x.name)
	case "remove":
		return d.Remove(x.name)
	}
	return d.Rename(x.name, x.to)
}

func laid(name string, b []byte) []step {
	return []step{{"append", "new", "", b}, {"sync", "new", "", nil}, {"rename", "new", name, nil}}
}

func putAside(d *disk.Disk, name string) []step {
	var l []step
	if !d.Safe(name) {
		l = append(l, step{"sync", name, "", nil})
	}
	k := 0
	for slices.Contains(d.Names(), fmt.Sprintf("bad.%d.%s", k, name)) {
		k++
	}
	return append(l, step{"rename", name, fmt.Sprintf("bad.%d.%s", k, name), nil})
}

// inTurn does one step behind the other, up to the first error.
func inTurn(d *disk.Disk, steps []step) api.Errno {
	for _, x := range steps {
		if e := x.do(d); e != api.OK {
			return e
		}
	}
	return api.OK
}

// mending is what Mend should say of a mailbox, and do.
type mending struct {
	e     api.Errno
	box   api.Box
	steps []step
}

func mendingOf(d *disk.Disk, n int) mending {
	names := d.Names()
	log, idx, flg := fmt.Sprint("log.", n), fmt.Sprint("idx.", n), fmt.Sprint("flg.", n)
	if !slices.Contains(names, log) {
		return mending{e: api.ErrNone}
	}
	logBytes, _ := d.Read(log)
	idxBytes, _ := d.Read(idx)
	flgBytes, _ := d.Read(flg)
	was := boxIn(logBytes)
	if len(was.Msgs) > 500 {
		return mending{e: api.ErrMany}
	}
	anew := was.torn || !was.clean || was.Name == "" || was.Epoch == 0
	is := was
	if anew {
		is = was.anew(n)
	}
	f, formed := flagsIn(flgBytes)
	if formed && was.clean && f.epoch == int64(was.Epoch) {
		is = is.withFlags(f)
	}
	m := mending{box: is.Box}
	flgBad := anew || !formed || !f.areOf(is)
	idxBad := anew || !bytes.Equal(idxBytes, is.index())
	if !flgBad && !idxBad {
		return m
	}
	if flgBad && slices.Contains(names, flg) {
		m.steps = append(m.steps, putAside(d, flg)...)
	}
	if idxBad && slices.Contains(names, idx) {
		m.steps = append(m.steps, putAside(d, idx)...)
	}
	if slices.Contains(names, "new") {
		m.steps = append(m.steps, step{"remove", "new", "", nil})
	}
	if anew {
		m.steps = append(m.steps, laid(log, is.log)...)
	}
	m.steps = append(append(m.steps, laid(flg, is.flags())...), laid(idx, is.index())...)
	return m
}

// picture tells all of a disk that can be seen while it has power.
func picture(d *disk.Disk) string {
	var s strings.Builder
	fmt.Fprintf(&s, "room %d lost %v", d.Room(), d.Lost())
	for _, n := range d.Names() {
		b, e := d.Read(n)
		fmt.Fprintf(&s, " | %s %x %d %v", n, b, e, d.Safe(n))
	}
	return s.String()
}

func wantPicture(t *testing.T, what any, got, want *disk.Disk) {
	t.Helper()
	if got, want := picture(got), picture(want); got != want {
		t.Errorf("%v: the disk is\n%s\nwant\n%s", what, cut(got), cut(want))
	}
}

func cut(s string) string {
	if len(s) > 3000 {
		return fmt.Sprintf("%s.. of %d bytes", s[:3000], len(s))
	}
	return s
}

func want(t *testing.T, what any, got, want api.Errno) {
	t.Helper()
	if got != want {
		t.Errorf("%v: %d, want %d", what, got, want)
	}
}

func sameBox(a, b api.Box) bool {
	same := func(a, b api.Msg) bool {
		return a.UID == b.UID && a.Date == b.Date && a.Flags == b.Flags && bytes.Equal(a.Octets, b.Octets)
	}
	return a.Name == b.Name && a.Epoch == b.Epoch && a.Next == b.Next && slices.EqualFunc(a.Msgs, b.Msgs, same)
}

// withoutFlags answers a mailbox in which no message has any.
func withoutFlags(b api.Box) api.Box {
	b.Msgs = slices.Clone(b.Msgs)
	for k := range b.Msgs {
		b.Msgs[k].Flags = 0
	}
	return b
}

func wantBox(t *testing.T, what any, got api.Box, e api.Errno, want api.Box, wanted api.Errno) {
	t.Helper()
	if e != wanted || !sameBox(got, want) {
		t.Errorf("%v: %s, %d, want %s, %d", what, cut(fmt.Sprint(got)), e, cut(fmt.Sprint(want)), wanted)
	}
}

// diskOf answers a disk that has these files, safe.
func diskOf(t *testing.T, capacity int, files map[string][]byte) *disk.Disk {
	t.Helper()
	d, e := disk.New(capacity)
	want(t, "New", e, api.OK)
	for name, b := range files {
		want(t, name, d.Harm(name, b), api.OK)
	}
	return d
}

func lostDisk(t *testing.T, files map[string][]byte) *disk.Disk {
	t.Helper()
	d := diskOf(t, 1<<20, files)
	d.Fuse(0)
	d.Append("x", nil)
	return d
}

// leave takes a disk's room, but for so many bytes, by a file that no store looks at.
func leave(t *testing.T, d *disk.Disk, room int) {
	t.Helper()
	want(t, "leave", d.Harm("full", make([]byte, d.Room()-room)), api.OK)
}

// wantMended holds a Mend against what it should be.
func wantMended(t *testing.T, what any, d *disk.Disk, n int) {
	t.Helper()
	m := mendingOf(d, n)
	should := d.Clone()
	e := inTurn(should, m.steps)
	if e == api.ErrFull {
		// What there isn't room for changes nothing.
		m, should = mending{e: e}, d.Clone()
	}
	got, e := repair.Mend(d, n)
	wantBox(t, what, got, e, m.box, m.e)
	wantPicture(t, what, d, should)
	if m.e != api.OK {
		return
	}
	whole, e := store.Whole(d, n)
	wantBox(t, fmt.Sprint(what, ": whole"), whole, e, m.box, api.OK)
	got, e = repair.Mend(d, n)
	wantBox(t, fmt.Sprint(what, ": twice"), got, e, m.box, api.OK)
	wantPicture(t, fmt.Sprint(what, ": twice"), d, should)
}

// keeps are what may be left of what wasn't safe.
var keeps = [][]int{nil, {1}, {3, 40}, {1000000007}}

// wantLost holds a Mend against what it should be, wherever the power goes; what comes behind that is the same mailbox.
func wantLost(t *testing.T, what any, d *disk.Disk, n int) {
	t.Helper()
	m := mendingOf(d, n)
	for at := range m.steps {
		what := fmt.Sprint(what, ", a fuse of ", at)
		got, should := d.Clone(), d.Clone()
		got.Fuse(at)
		should.Fuse(at)
		want(t, what, inTurn(should, m.steps), api.ErrLost)
		b, e := repair.Mend(got, n)
		wantBox(t, what, b, e, api.Box{}, api.ErrLost)
		wantPicture(t, what, got, should)
		keep := keeps[at%len(keeps)]
		got.Restart(keep)
		should.Restart(keep)
		wantPicture(t, what+", restarted", got, should)
		b, e = repair.Mend(got, n)
		wantBox(t, what+", again", withoutFlags(b), e, withoutFlags(m.box), api.OK)
		wantMended(t, what+", again", should, n)
	}
}

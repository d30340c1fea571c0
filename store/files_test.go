package store_test

import (
	"bytes"
	"fmt"
	"math"
	"slices"
	"strings"
	"testing"

	"cubby/api"
	"cubby/disk"
	"cubby/index"
	"cubby/log"
	"cubby/store"
)

// wantSteps holds a call against the changes that it should do, wherever the power goes.
func wantSteps(t *testing.T, what any, d *disk.Disk, steps []step, ask func(d *disk.Disk) api.Errno) {
	t.Helper()
	for n := range len(steps) + 2 {
		got, should := d.Clone(), d.Clone()
		if n <= len(steps) {
			got.Fuse(n)
			should.Fuse(n)
		}
		e := inTurn(should, steps)
		want(t, fmt.Sprint(what, " with a fuse of ", n), ask(got), e)
		wantPicture(t, fmt.Sprint(what, " with a fuse of ", n), got, should)
		keep := []int{n * 5, 3, 0}
		got.Restart(keep)
		should.Restart(keep)
		wantPicture(t, fmt.Sprint(what, " restarted behind a fuse of ", n), got, should)
	}
}

func lostDisk(t *testing.T, files map[string][]byte) *disk.Disk {
	t.Helper()
	d := diskOf(t, 1<<16, files)
	d.Fuse(0)
	d.Append("x", nil)
	return d
}

func TestLogs(t *testing.T) {
	for _, c := range []struct {
		names string
		want  []int
	}{
		{"", nil},
		{"tree idx.0 flg.0 new", nil},
		{"log.0", []int{0}},
		{"log.15", []int{15}},
		{"log.10 log.2 log.1 log.9", []int{1, 2, 9, 10}},
		{"log.16 log.3 log.99 log.160 log.4294967296", []int{3}},
		{"log. log.01 log.00 log.1.1 log.a alog.1 bad.0.log.5 log log1 .log.1 log..1", nil},
		{"log.0 log.1 log.2 log.3 log.4 log.5 log.6 log.7 log.8 log.9 log.10 log.11 log.12 log.13 log.14 log.15 log.16", []int{0, 1, 2, 3, 4, 5, 6, 7, 8, 9, 10, 11, 12, 13, 14, 15}},
	} {
		files := map[string][]byte{}
		for _, name := range strings.Fields(c.names) {
			files[name] = nil
		}
		for _, d := range []*disk.Disk{diskOf(t, 1000, files), lostDisk(t, files)} {
			got := store.Logs(d)
			if !slices.Equal(got, c.want) {
				t.Errorf("%q: %v", c.names, got)
			}
			clear(got[:cap(got)])
			if again := store.Logs(d); !slices.Equal(again, c.want) {
				t.Errorf("%q, again: %v", c.names, again)
			}
		}
	}
	if got := store.Logs(nil); len(got) != 0 {
		t.Error(got)
	}
}

func TestLay(t *testing.T) {
	b := []byte("hello")
	for _, files := range []map[string][]byte{{}, {"a": []byte("there")}, {"a": nil, "new": []byte("x"), "b": nil}, {"new": nil}} {
		for _, b := range [][]byte{b, nil, {}, make([]byte, 500)} {
			for _, name := range []string{"a", "b", "tree", "idx.15", strings.Repeat("z", 40)} {
				steps := laid(name, b)
				if _, is := files["new"]; is {
					steps = append([]step{{"remove", "new", nil}}, steps...)
				}
				wantSteps(t, name, diskOf(t, 600, files), steps, func(d *disk.Disk) api.Errno { return store.Lay(d, name, b) })
			}
		}
	}
	if string(b) != "hello" {
		t.Errorf("%q", b)
	}
}

func TestLayOfWhatIsNotSafe(t *testing.T) {
	d := diskOf(t, 100, map[string][]byte{"a": []byte("ab")})
	d.Append("new", []byte("not safe"))
	d.Append("a", []byte("cd"))
	want(t, "Lay", store.Lay(d, "a", []byte("xyz")), api.OK)
	wantPicture(t, "laid", d, diskOf(t, 100, map[string][]byte{"a": []byte("xyz")}))
	d.Restart(nil)
	wantPicture(t, "restarted", d, diskOf(t, 100, map[string][]byte{"a": []byte("xyz")}))
}

func TestLayOfWrong(t *testing.T) {
	for _, name := range []string{"", "A", "a b", "a/b", "new", strings.Repeat("z", 41)} {
		steps := append([]step{{"remove", "new", nil}}, laid(name, []byte("b"))...)
		d := diskOf(t, 100, map[string][]byte{"new": []byte("x")})
		wantSteps(t, name, d, steps, func(d *disk.Disk) api.Errno { return store.Lay(d, name, []byte("b")) })
		want(t, name, store.Lay(d, name, nil), api.ErrArg)
	}
	full := diskOf(t, 10, map[string][]byte{"a": []byte("12345"), "new": []byte("1")})
	want(t, "as much as there is room", store.Lay(full.Clone(), "a", []byte("abcde")), api.OK)
	want(t, "one byte more", store.Lay(full, "a", []byte("abcdef")), api.ErrFull)
	if b, _ := full.Read("a"); string(b) != "12345" {
		t.Errorf("%q", b)
	}
	want(t, "none", store.Lay(nil, "a", nil), api.ErrArg)
	want(t, "lost", store.Lay(lostDisk(t, nil), "a", nil), api.ErrLost)
	want(t, "lost, with a new", store.Lay(lostDisk(t, map[string][]byte{"new": nil}), "a", nil), api.ErrLost)
}

func TestLayKeepsNoMemory(t *testing.T) {
	d := diskOf(t, 100, nil)
	b := append(make([]byte, 0, 20), "hello"...)
	want(t, "Lay", store.Lay(d, "a", b), api.OK)
	if string(b) != "hello" || !bytes.Equal(b[:20][5:], make([]byte, 15)) {
		t.Errorf("%q", b[:20])
	}
	clear(b[:20])
	if got, _ := d.Read("a"); string(got) != "hello" {
		t.Errorf("%q", got)
	}
}

func TestTree(t *testing.T) {
	for n, c := range []struct {
		m plainStore
		e api.Errno
	}{
		{plainStore{0: newBox("INBOX")}, api.OK},
		{plainStore{15: newBox("INBOX"), 10: newBox("a"), 2: newBox("b")}, api.OK},
		{some(), api.OK},
		{plainStore{}, api.ErrArg},
		{plainStore{0: newBox("a")}, api.ErrArg},
		{plainStore{0: newBox("INBOX"), 1: newBox("INBOX")}, api.ErrArg},
		{plainStore{0: newBox("INBOX"), 1: newBox("a"), 7: newBox("a")}, api.ErrArg},
		{plainStore{0: newBox("INBOX"), 1: plainBox{log: goneFrame(1, 1)}}, api.ErrArg},
		{plainStore{0: newBox("INBOX"), 1: plainBox{}}, api.ErrArg},
		{plainStore{0: newBox("INBOX"), 1: plainBox{log: boxFrame(1, "inbox")}}, api.ErrArg},
		{plainStore{0: newBox("INBOX"), 16: newBox("a")}, api.ErrArg},
	} {
		files := map[string][]byte{"tree": []byte("what is there doesn't matter")}
		for n, b := range c.m {
			files[fmt.Sprint("log.", n)] = b.log
		}
		d := diskOf(t, 1<<16, files)
		before := d.Clone()
		wanted := c.m.tree()
		if n == 10 {
			// There are no logs above 15, for a store.
			c.e, wanted = api.OK, plainStore{0: newBox("INBOX")}.tree()
		}
		if c.e != api.OK {
			wanted = nil
		}
		for range 2 {
			got, e := store.Tree(d)
			if e != c.e || !bytes.Equal(got, wanted) {
				t.Errorf("%d: %x, %d, want %x, %d", n, got, e, wanted, c.e)
			}
			clear(got[:cap(got)])
		}
		wantPicture(t, n, d, before)
	}
	if b, e := store.Tree(nil); len(b) != 0 || e != api.ErrArg {
		t.Error(b, e)
	}
	if b, e := store.Tree(lostDisk(t, some().files())); len(b) != 0 || e != api.ErrLost {
		t.Error(b, e)
	}
}

// A log that isn't whole has its name still.
func TestTreeOfDamaged(t *testing.T) {
	files := some().files()
	files["log.2"] = slices.Concat([]byte("garbage"), boxFrame(9, "Y"), boxFrame(3, "X"), []byte("torn"))
	delete(files, "idx.0")
	got, e := store.Tree(diskOf(t, 1<<16, files))
	if wanted := some().with(2, newBox("X")).tree(); e != api.OK || !bytes.Equal(got, wanted) {
		t.Errorf("%x, %d, want %x", got, e, wanted)
	}
}

func TestWhole(t *testing.T) {
	m := some()
	d := diskOf(t, 1<<16, m.files())
	before := d.Clone()
	for n := -2; n < 20; n++ {
		b, e := store.Whole(d, n)
		wanted := api.OK
		if _, is := m[n]; !is {
			wanted = api.ErrNone
		}
		if e != wanted || !sameBox(b, m[n].Box) {
			t.Errorf("%d: %v, %d", n, b, e)
		}
	}
	for _, n := range []int{math.MinInt, math.MaxInt} {
		if b, e := store.Whole(d, n); !sameBox(b, api.Box{}) || e != api.ErrNone {
			t.Error(n, b, e)
		}
	}
	wantPicture(t, "asked", d, before)
	if b, e := store.Whole(nil, 0); !sameBox(b, api.Box{}) || e != api.ErrArg {
		t.Error(b, e)
	}
	if b, e := store.Whole(lostDisk(t, m.files()), 0); !sameBox(b, api.Box{}) || e != api.ErrLost {
		t.Error(b, e)
	}
}

// The pages alone aren't a mailbox; other files don't matter to one.
func TestWholeOfOne(t *testing.T) {
	files := some().files()
	delete(files, "log.3")
	for _, name := range []string{"tree", "idx.2", "flg.2", "log.2"} {
		delete(files, name)
	}
	files["new"], files["idx.7"] = nil, nil
	d := diskOf(t, 1<<16, files)
	if b, e := store.Whole(d, 0); e != api.OK || !sameBox(b, some()[0].Box) {
		t.Error(b, e)
	}
	if b, e := store.Whole(d, 3); e != api.ErrNone || !sameBox(b, api.Box{}) {
		t.Error(b, e)
	}
}

func TestWholeOfHarmed(t *testing.T) {
	damaged := 0
	for what, harm := range harms() {
		files := some().files()
		harm(files)
		d := diskOf(t, 1<<20, files)
		b, e := store.Whole(d, 0)
		whole := bytes.Equal(files["log.0"], some()[0].log) && bytes.Equal(files["idx.0"], some()[0].index()) && bytes.Equal(files["flg.0"], some()[0].flags()) ||
			what == "a name that is there" || what == "no INBOX"
		if whole {
			want(t, what, e, api.OK)
			continue
		}
		damaged++
		if e != api.ErrDamaged || !sameBox(b, api.Box{}) {
			t.Errorf("%s: %s, %d", what, cut(fmt.Sprint(b)), e)
		}
	}
	if damaged < 15 {
		t.Error("only", damaged)
	}
}

// The flags are those of flg.N, whatever the messages came with.
func TestWholeHasTheFlagsOfItsFile(t *testing.T) {
	m := some()
	in := m[0]
	in.Msgs = slices.Clone(in.Msgs)
	for flags := range 32 {
		in.Msgs[0].Flags, in.Msgs[2].Flags = flags, 31-flags
		files := m.files()
		files["flg.0"] = in.flags()
		d := diskOf(t, 1<<16, files)
		if b, e := store.Whole(d, 0); e != api.OK || !sameBox(b, in.Box) {
			t.Error(flags, b, e)
		}
		wantStore(t, flags, d, wantOpen(t, flags, d, api.OK), m.with(0, in))
	}
	in.Msgs[0].Flags = 32
	files := m.files()
	files["flg.0"] = in.flags()
	if b, e := store.Whole(diskOf(t, 1<<16, files), 0); e != api.ErrDamaged {
		t.Error(b, e)
	}
}

func TestWholeIsNewMemory(t *testing.T) {
	d, s := opened(t, 1<<16, some())
	for range 2 {
		for n := range some() {
			b, _ := store.Whole(d, n)
			spoil(b)
		}
		for _, name := range some().names() {
			b, _ := s.Load(name)
			spoil(b)
		}
	}
	wantStore(t, "spoilt", d, s, some())
}

func spoil(b api.Box) {
	for _, m := range b.Msgs {
		o := m.Octets[:cap(m.Octets)]
		for n := range o {
			o[n] = 'x'
		}
	}
	clear(b.Msgs[:cap(b.Msgs)])
}

func TestPages(t *testing.T) {
	in := some()[0]
	l := log.Read(in.log)
	for n, c := range []struct {
		marks []index.Mark
		want  []int
	}{
		{nil, []int{0, 9, 31}},
		{[]index.Mark{}, []int{0, 9, 31}},
		{[]index.Mark{{UID: 2, Flags: 4}}, []int{0, 4, 31}},
		{[]index.Mark{{UID: 1, Flags: 31}, {UID: 2, Flags: 0}, {UID: 4, Flags: 0}}, []int{31, 0, 0}},
		{[]index.Mark{{UID: 4, Flags: 1}, {UID: 1, Flags: 2}}, []int{2, 9, 1}},
		{[]index.Mark{{UID: 3, Flags: 1}, {UID: 5, Flags: 2}, {UID: 0, Flags: 4}, {UID: lastUID, Flags: 8}}, []int{0, 9, 31}},
		{[]index.Mark{{UID: 3, Flags: 99}, {UID: 5, Flags: -1}, {UID: 1, Flags: 16}}, []int{16, 9, 31}},
		{[]index.Mark{{UID: 1, Flags: 3}, {UID: 1, Flags: 4}, {UID: 1, Flags: 99}}, []int{3, 9, 31}},
	} {
		b := in
		b.Msgs = slices.Clone(in.Msgs)
		for k, flags := range c.want {
			b.Msgs[k].Flags = flags
		}
		for _, files := range []map[string][]byte{nil, some().files()} {
			for _, number := range []int{0, 7, 15} {
				wantSteps(t, n, diskOf(t, 1<<16, files), paged(number, b), func(d *disk.Disk) api.Errno { return store.Pages(d, number, l, c.marks) })
			}
		}
	}
	if !slices.EqualFunc(l.Live, log.Read(in.log).Live, func(a, b log.Live) bool {
		return a.Msg.Flags == b.Msg.Flags && a.Msg.UID == b.Msg.UID && a.At == b.At
	}) {
		t.Error("the log that was handed in has changed")
	}
}

func TestPagesOfWrong(t *testing.T) {
	in := some()[0]
	many := newBox("INBOX")
	for range 501 {
		many = many.with(api.Msg{})
	}
	unnamed := log.Read(in.log)
	unnamed.Name = ""
	misnamed := log.Read(in.log)
	misnamed.Name = "inbox"
	unclean := log.Read(in.log)
	unclean.Clean = false
	epochless := log.Read(in.log)
	epochless.Epoch = 0
	turned := log.Read(in.log)
	slices.Reverse(turned.Live)
	flagged := log.Read(in.log)
	flagged.Live[0].Msg.Flags = 32
	for n, c := range []struct {
		l     log.Log
		marks []index.Mark
	}{
		{l: log.Log{}}, {l: log.Read(nil)}, {l: unnamed}, {l: misnamed}, {l: unclean}, {l: epochless}, {l: turned}, {l: flagged},
		{l: log.Read(goneFrame(1, 1))}, {l: log.Read(slices.Concat(in.log, in.log))}, {l: log.Read(many.log)},
		{log.Read(in.log), []index.Mark{{UID: 1, Flags: 32}}},
		{log.Read(in.log), []index.Mark{{UID: 4, Flags: -1}}},
		{log.Read(in.log), []index.Mark{{UID: 2, Flags: 77}, {UID: 2, Flags: 7}}},
	} {
		files := some().files()
		files["new"] = nil
		d := diskOf(t, 1<<16, files)
		before := d.Clone()
		want(t, n, store.Pages(d, 0, c.l, c.marks), api.ErrArg)
		wantPicture(t, n, d, before)
		want(t, n, store.Pages(lostDisk(t, files), 0, c.l, c.marks), api.ErrArg)
	}
	// What is wrong of its own flags doesn't matter where others take their place.
	want(t, "flags in place of wrong ones", store.Pages(diskOf(t, 1<<16, nil), 0, flagged, []index.Mark{{UID: 1}}), api.OK)
	want(t, "lost", store.Pages(lostDisk(t, nil), 0, log.Read(in.log), nil), api.ErrLost)
	want(t, "none", store.Pages(nil, 0, log.Read(in.log), nil), api.ErrArg)
	want(t, "no number", store.Pages(diskOf(t, 1<<16, nil), -1, log.Read(in.log), nil), api.ErrArg)
}

func TestPagesWithoutRoom(t *testing.T) {
	in := some()[0]
	for room := range in.size() + 2 {
		d := diskOf(t, room+30, map[string][]byte{"new": make([]byte, 10), "flg.4": make([]byte, 20)})
		should := d.Clone()
		e := inTurn(should, append([]step{{"remove", "new", nil}}, paged(4, in)...))
		want(t, room, store.Pages(d, 4, log.Read(in.log), nil), e)
		wantPicture(t, room, d, should)
	}
}

// Pages takes a log at its word; Upto is what it says of what is torn.
func TestPagesOfTorn(t *testing.T) {
	in := some()[0]
	d := diskOf(t, 1<<16, nil)
	want(t, "torn", store.Pages(d, 0, log.Read(slices.Concat(in.log, []byte("cub"))), nil), api.OK)
	got, _ := d.Read("idx.0")
	if !bytes.Equal(got, in.index()) {
		t.Errorf("%x", got)
	}
	if _, e := store.Whole(d, 0); e != api.ErrNone {
		t.Error(e)
	}
	d.Harm("log.0", in.log)
	if b, e := store.Whole(d, 0); e != api.OK || !sameBox(b, in.Box) {
		t.Error(b, e)
	}
}

func TestBegin(t *testing.T) {
	old := some()[3]
	for _, name := range []string{"INBOX", "a", "a/b", strings.Repeat("n", 60)} {
		b := newBox(name)
		for _, number := range []int{0, 1, 9, 15, 16, 200} {
			wantSteps(t, name, diskOf(t, 1<<16, nil), append(grown(number, b.log), paged(number, b)...), func(d *disk.Disk) api.Errno { return store.Begin(d, number, name) })
		}
		// What has a log already goes on under that name.
		on := old
		on.Name = name
		on.log = append(slices.Clone(old.log), b.log...)
		wantSteps(t, name+" on", diskOf(t, 1<<16, some().files()), append(grown(3, b.log), paged(3, on)...), func(d *disk.Disk) api.Errno { return store.Begin(d, 3, name) })
	}
}

func TestBeginOfWrong(t *testing.T) {
	for _, name := range []string{"", "inbox", "Inbox", "a b", "/a", "a/", "a//b", "ä", strings.Repeat("n", 61), strings.Repeat("n", 70000)} {
		d := diskOf(t, 1<<16, some().files())
		for _, number := range []int{0, 1, -1} {
			want(t, name, store.Begin(d, number, name), api.ErrArg)
		}
		wantPicture(t, name, d, diskOf(t, 1<<16, some().files()))
	}
	d := diskOf(t, 1<<16, nil)
	want(t, "no number", store.Begin(d, -1, "a"), api.ErrArg)
	want(t, "no number", store.Begin(d, math.MinInt, "a"), api.ErrArg)
	wantPicture(t, "no number", d, diskOf(t, 1<<16, nil))
	want(t, "none", store.Begin(nil, 0, "a"), api.ErrArg)
	want(t, "lost", store.Begin(lostDisk(t, nil), 0, "a"), api.ErrLost)
	want(t, "lost", store.Begin(lostDisk(t, some().files()), 3, "a"), api.ErrLost)
	want(t, "lost, and no name", store.Begin(lostDisk(t, nil), 0, "a b"), api.ErrArg)
	// A log that couldn't have an index isn't begun.
	twice := slices.Concat(messageFrame(1, "a", api.Msg{UID: 1}), messageFrame(1, "a", api.Msg{UID: 1}))
	unclean := diskOf(t, 1<<16, map[string][]byte{"log.1": twice})
	want(t, "not clean", store.Begin(unclean, 1, "a"), api.ErrArg)
	wantPicture(t, "not clean", unclean, diskOf(t, 1<<16, map[string][]byte{"log.1": twice}))
}

func TestBeginWithoutRoom(t *testing.T) {
	b := newBox("a")
	for room := range len(b.log) + b.size() + 2 {
		d := diskOf(t, room, nil)
		should := d.Clone()
		e := inTurn(should, append(grown(4, b.log), paged(4, b)...))
		want(t, room, store.Begin(d, 4, "a"), e)
		wantPicture(t, room, d, should)
	}
}

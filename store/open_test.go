package store_test

import (
	"bytes"
	"fmt"
	"maps"
	"slices"
	"strings"
	"testing"

	"cubby/api"
	"cubby/disk"
	"cubby/index"
	"cubby/log"
	"cubby/store"
)

func wantOpen(t *testing.T, what any, d *disk.Disk, wanted api.Errno) *store.Store {
	t.Helper()
	before := d.Clone()
	s, e := store.Open(d)
	if e != wanted || (s != nil) != (e == api.OK) {
		t.Errorf("%v: Open answers %v, %d, want %d", what, s != nil, e, wanted)
	}
	if wanted != api.OK || len(before.Names()) > 0 {
		wantPicture(t, what, d, before)
	}
	return s
}

// makingOf are the changes by which a store is made.
func makingOf() (plainStore, []step) {
	m := plainStore{0: newBox("INBOX")}
	return m, slices.Concat(grown(0, m[0].log), laid("idx.0", m[0].index()), laid("flg.0", m[0].flags()), laid("tree", m.tree()))
}

func TestOpenOfNoFiles(t *testing.T) {
	m, steps := makingOf()
	should, _ := disk.New(1000)
	want(t, "steps", inTurn(should, steps), api.OK)
	d, _ := disk.New(1000)
	s, e := store.Open(d)
	want(t, "Open", e, api.OK)
	wantPicture(t, "made", d, should)
	wantStore(t, "made", d, s, m)
	if !slices.Equal(d.Names(), []string{"flg.0", "idx.0", "log.0", "tree"}) {
		t.Error(d.Names())
	}
	wantStore(t, "opened again", d, wantOpen(t, "again", d, api.OK), m)
}

func TestOpenMakesInOrder(t *testing.T) {
	_, steps := makingOf()
	for n := range len(steps) + 2 {
		for _, keep := range [][]int{nil, {1}, {7, 0}, {100}} {
			d, _ := disk.New(1000)
			want(t, n, d.Fuse(n), api.OK)
			should := d.Clone()
			lost := inTurn(should, steps)
			s, e := store.Open(d)
			if e != lost || (s == nil) != (n < len(steps)) {
				t.Errorf("a fuse of %d: %v, %d, want %d", n, s, e, lost)
			}
			wantPicture(t, n, d, should)
			d.Restart(keep)
			should.Restart(keep)
			wantPicture(t, n, d, should)
		}
	}
}

func TestOpenWithoutRoom(t *testing.T) {
	m, _ := makingOf()
	need := len(m[0].log) + m[0].size() + len(m.tree())
	for capacity := range need + 2 {
		d, _ := disk.New(capacity)
		s, e := store.Open(d)
		if capacity >= need {
			want(t, capacity, e, api.OK)
			wantStore(t, capacity, d, s, m)
			continue
		}
		if e != api.ErrFull || s != nil || len(d.Names()) != 0 || d.Room() != capacity {
			t.Errorf("%d bytes: %v, %d, %s", capacity, s, e, picture(d))
		}
	}
	if s, e := store.Open(&disk.Disk{}); s != nil || e != api.ErrFull {
		t.Error(s, e)
	}
}

func TestOpenOfNoneAndLost(t *testing.T) {
	if s, e := store.Open(nil); s != nil || e != api.ErrArg {
		t.Error(s, e)
	}
	for _, m := range []plainStore{nil, some()} {
		var d *disk.Disk
		if m == nil {
			d, _ = disk.New(1000)
		} else {
			d = diskOf(t, 10000, m.files())
			d.Harm("tree", nil)
		}
		d.Fuse(0)
		d.Append("a", nil)
		if s, e := store.Open(d); s != nil || e != api.ErrLost {
			t.Error(s, e)
		}
	}
}

func TestOpenOfWhole(t *testing.T) {
	sixteen := plainStore{}
	for n := range 16 {
		sixteen[n] = newBox(fmt.Sprint("box", n))
	}
	sixteen[9] = newBox("INBOX")
	full := newBox("INBOX")
	for range 500 {
		full = full.with(api.Msg{})
	}
	last := plainBox{Box: api.Box{Name: "INBOX", Epoch: lastUID, Next: lastUID - 1}, log: slices.Concat(boxFrame(lastUID, "INBOX"), goneFrame(lastUID, lastUID-2))}
	last = last.with(api.Msg{})
	end := last
	end.log = slices.Concat(last.log, goneFrame(lastUID, lastUID))
	// A record that is damaged, but whole, is none; nothing is torn by it.
	holed := newBox("INBOX")
	bad := messageFrame(1, "INBOX", api.Msg{UID: 7})
	bad[len(bad)-1]++
	holed.log = slices.Concat(holed.log, bad, []byte("garbage"), boxFrame(1, "INBOX"))
	for n, m := range []plainStore{{0: newBox("INBOX")}, {15: newBox("INBOX")}, some(), sixteen, {0: full}, {3: last}, {3: end}, {0: holed}} {
		d := diskOf(t, 1<<20, m.files())
		wantStore(t, n, d, wantOpen(t, n, d, api.OK), m)
	}
}

// harms are what may be done to a whole store's files, so that it isn't whole any more.
func harms() map[string]func(files map[string][]byte) {
	m := some()
	in := m[0]
	put := func(name string, b []byte) func(map[string][]byte) {
		return func(files map[string][]byte) { files[name] = b }
	}
	both := func(b plainBox) func(map[string][]byte) {
		return func(files map[string][]byte) {
			files["log.0"], files["idx.0"], files["flg.0"] = b.log, b.index(), b.flags()
		}
	}
	flagged := in
	flagged.Msgs = slices.Clone(in.Msgs)
	flagged.Msgs[1].UID++
	fewer := in
	fewer.Msgs = in.Msgs[:2]
	epoch := in
	epoch.Epoch++
	next := in
	next.Next++
	placed := in
	placed.at = slices.Clone(in.at)
	placed.at[1]++
	renamed := in
	renamed.Name = "other"
	twice := in
	twice.log = slices.Concat(in.log, messageFrame(1, "INBOX", api.Msg{UID: 5}), messageFrame(1, "INBOX", api.Msg{UID: 5}))
	torn := in
	torn.log = slices.Concat(in.log, []byte("x"))
	half := in
	half.log = slices.Concat(in.log, goneFrame(1, 1)[:50])
	many := newBox("INBOX")
	for range 501 {
		many = many.with(api.Msg{})
	}
	nameless := plainBox{Box: api.Box{Name: "", Epoch: 1, Next: 3}, log: goneFrame(1, 2)}
	return map[string]func(map[string][]byte){
		"new":                     put("new", []byte("x")),
		"new without bytes":       put("new", nil),
		"idx.1 alone":             put("idx.1", newBox("a").index()),
		"flg.1 alone":             put("flg.1", newBox("a").flags()),
		"idx.15 alone":            put("idx.15", nil),
		"flg.15 alone":            put("flg.15", nil),
		"flags of another epoch":  put("flg.0", epoch.flags()),
		"flags of another UID":    put("flg.0", flagged.flags()),
		"flags of fewer":          put("flg.0", fewer.flags()),
		"index of another epoch":  put("idx.0", epoch.index()),
		"index of another UID":    put("idx.0", flagged.index()),
		"index of fewer":          put("idx.0", fewer.index()),
		"index of another next":   put("idx.0", next.index()),
		"index of another place":  put("idx.0", placed.index()),
		"index of another name":   put("idx.0", renamed.index()),
		"index of less":           put("idx.0", m[2].index()),
		"index and flags changed": func(f map[string][]byte) { f["idx.0"], f["flg.0"] = f["flg.0"], f["idx.0"] },
		"a log that goes on":      put("log.0", slices.Concat(in.log, goneFrame(1, 1))),
		"a log that isn't clean":  both(twice),
		"a log with more":         both(torn),
		"a log with half a frame": both(half),
		"too many messages":       both(many),
		"a log without a name":    both(nameless),
		"an empty log":            both(plainBox{}),
		"a name that is there": func(f map[string][]byte) {
			both(newBox("Z"))(f)
			f["tree"] = plainStore{0: newBox("Z"), 2: m[2], 3: m[3]}.tree()
		},
		"no INBOX": func(f map[string][]byte) {
			both(newBox("b"))(f)
			f["tree"] = plainStore{0: newBox("b"), 2: m[2], 3: m[3]}.tree()
		},
		"a tree of other numbers": put("tree", plainStore{0: m[0], 1: m[2], 3: m[3]}.tree()),
		"a tree of other names":   put("tree", plainStore{0: m[0], 2: newBox("z"), 3: m[3]}.tree()),
		"a tree of fewer":         put("tree", plainStore{0: m[0], 3: m[3]}.tree()),
		"a tree of more":          put("tree", m.with(1, newBox("a")).tree()),
		"names the other way":     put("tree", plainStore{0: m[0], 2: m[3], 3: m[2]}.tree()),
		"an index as the tree":    put("tree", m[0].index()),
		"another log":             put("log.1", newBox("a").log),
		"another whole mailbox": func(f map[string][]byte) {
			maps.Copy(f, map[string][]byte{"log.1": newBox("a").log, "idx.1": newBox("a").index(), "flg.1": newBox("a").flags()})
		},
		"a mailbox that isn't any": func(f map[string][]byte) { delete(f, "log.2"); delete(f, "idx.2"); delete(f, "flg.2") },
	}
}

func TestOpenOfHarmed(t *testing.T) {
	for what, harm := range harms() {
		files := some().files()
		harm(files)
		wantOpen(t, what, diskOf(t, 1<<20, files), api.ErrDamaged)
	}
}

func TestOpenOfEachFileHarmed(t *testing.T) {
	for name, b := range some().files() {
		files := some().files()
		delete(files, name)
		wantOpen(t, name+" lost", diskOf(t, 1<<20, files), api.ErrDamaged)
		for _, bad := range [][]byte{nil, []byte("spoilt"), b[:len(b)-1], b[1:], append(slices.Clone(b), 0), append([]byte{0}, b...), slices.Concat(b, b)} {
			files[name] = bad
			wantOpen(t, fmt.Sprintf("%s %x", name, bad), diskOf(t, 1<<20, files), api.ErrDamaged)
		}
		for at := range b {
			files[name] = slices.Clone(b)
			files[name][at] ^= 1 << (at % 8)
			wanted := api.ErrDamaged
			if saysAsMuch(name, b, files[name]) {
				wanted = api.OK
			}
			d := diskOf(t, 1<<20, files)
			s := wantOpen(t, fmt.Sprint(name, " ", at), d, wanted)
			if s != nil && at%20 == 0 {
				wantStore(t, fmt.Sprint(name, " ", at), d, s, some())
			}
		}
	}
}

// saysAsMuch tells whether a log, of which a record may be damaged, says all that it said: no more than a box that has
// messages, or a message that is gone, is damaged then.
func saysAsMuch(name string, was, is []byte) bool {
	if !strings.HasPrefix(name, "log.") {
		return bytes.Equal(was, is)
	}
	a, _ := index.Of(log.Read(was))
	b, _ := index.Of(log.Read(is))
	return a.Name == b.Name && a.Epoch == b.Epoch && a.Next == b.Next && slices.Equal(a.L, b.L) && log.Read(is).Torn == len(is) && len(is) == len(was)
}

// Files that a store doesn't ask for may be there.
func TestOpenAmongOthers(t *testing.T) {
	for _, name := range []string{"idx.16", "flg.16", "log.16", "log.99", "bad.0.tree", "bad.1.idx.0", "old", "log.", "log.00", "log.03", "idx.00", "log.0.", "xlog.0", "idx", "flg.", "new.", "news", "tree.0"} {
		files := some().files()
		files[name] = []byte("whatever")
		d := diskOf(t, 1<<20, files)
		wantStore(t, name, d, wantOpen(t, name, d, api.OK), some())
		alone := diskOf(t, 1<<20, map[string][]byte{name: nil})
		wantOpen(t, name+" alone", alone, api.ErrDamaged)
	}
}

// Files that aren't safe are there as well.
func TestOpenOfWhatIsNotSafe(t *testing.T) {
	d, _ := disk.New(1 << 20)
	for name, b := range some().files() {
		want(t, name, d.Append(name, b), api.OK)
	}
	wantStore(t, "not safe", d, wantOpen(t, "not safe", d, api.OK), some())
}

func TestNamesRise(t *testing.T) {
	m := plainStore{0: newBox("b"), 1: newBox("INBOX"), 2: newBox("a/b"), 3: newBox("a"), 4: newBox("B"), 5: newBox("a.b"), 6: newBox("0"), 7: newBox("_"), 8: newBox("InboX/z")}
	d, s := opened(t, 1<<16, m)
	if got := s.Names(); !slices.Equal(got, []string{"0", "B", "INBOX", "InboX/z", "_", "a", "a.b", "a/b", "b"}) {
		t.Errorf("%q", got)
	}
	got := s.Names()
	for n := range got[:cap(got)] {
		got[:cap(got)][n] = "x"
	}
	wantStore(t, "scribbled over", d, s, m)
}

func TestNumber(t *testing.T) {
	_, s := opened(t, 1<<16, some())
	for name, n := range map[string]int{"INBOX": 0, "Z": 2, "old/box": 3, "": -1, "inbox": -1, "Inbox": -1, "z": -1, "older": -1, "old": -1, "Z ": -1, "old/box/": -1, "log.0": -1} {
		if got := s.Number(name); got != n {
			t.Errorf("%q: %d, want %d", name, got, n)
		}
	}
}

func TestNoStore(t *testing.T) {
	for n, s := range []*store.Store{nil, {}} {
		if s.Number("INBOX") != -1 || s.Number("") != -1 || len(s.Names()) != 0 {
			t.Error(n, s.Number("INBOX"), s.Names())
		}
		b, e := s.Load("INBOX")
		if !sameBox(b, api.Box{}) || e != api.ErrArg {
			t.Error(n, b, e)
		}
		for _, c := range calls("INBOX") {
			if l, e := c.ask(s); len(l) != 0 || e != api.ErrArg {
				t.Error(n, c.what, l, e)
			}
		}
	}
}

// What a store knows of names outlasts the file that tells of them, and the power.
func TestNamesStay(t *testing.T) {
	m := some()
	d, s := opened(t, 1<<16, m)
	want(t, "lose", d.Lose("tree"), api.OK)
	wantStore(t, "without a tree", d, s, m)
	p := m.create("a", d.Room())
	want(t, "create", s.Create("a"), api.OK)
	wantStore(t, "with a tree again", d, s, p.after)
	d.Fuse(0)
	d.Append("log.0", nil)
	if !d.Lost() || s.Number("a") != 1 || s.Number("b") != -1 || !slices.Equal(s.Names(), []string{"INBOX", "Z", "a", "old/box"}) {
		t.Error("without power:", s.Number("a"), s.Names())
	}
	d.Restart(nil)
	wantStore(t, "with power again", d, s, p.after)
}

package store_test

import (
	"bytes"
	"fmt"
	"math"
	"slices"
	"strings"
	"testing"
	"time"

	"cubby/api"
	"cubby/disk"
	"cubby/store"
)

// calls are all that change something, of one mailbox.
func calls(name string) []call {
	return []call{
		createCall(name),
		appendCall(name, api.Msg{Date: 9, Flags: 2, Octets: []byte("new")}),
		storeCall(name, []uint32{1, 2, 4}, 8, 0),
		storeCall(name, nil, 0, 0),
		expungeCall(name, nil, true),
		expungeCall(name, []uint32{2}, false),
		expungeCall(name, []uint32{1}, false),
		copyCall("INBOX", name, []uint32{1, 2}),
		copyCall(name, "INBOX", []uint32{2, 1, 1, 9}),
		copyCall(name, name, []uint32{2}),
		copyCall(name, "INBOX", []uint32{7}),
		copyCall("INBOX", name, nil),
	}
}

// keeps are what may be left of what wasn't safe.
var keeps = [][]int{nil, {1}, {3, 40}, {1000000007}}

// wantCall holds a call of a whole store against its plan, wherever the power goes, and answers what the store is then.
func wantCall(t *testing.T, c call, d *disk.Disk, s *store.Store, m plainStore) plainStore {
	t.Helper()
	p := c.plan(m, d.Room())
	for n := range p.steps {
		wantLost(t, c, d, p, n)
	}
	should := d.Clone()
	want(t, c.what+": steps", inTurn(should, p.steps), api.OK)
	uids, e := c.ask(s)
	if e != p.e || !slices.Equal(uids, p.uids) {
		t.Errorf("%s: %v, %d, want %v, %d", c.what, uids, e, p.uids, p.e)
	}
	wantPicture(t, c.what, d, should)
	wantStore(t, c.what, d, s, p.after)
	return p.after
}

// wantLost lets the power go at the change behind the next n.
func wantLost(t *testing.T, c call, d *disk.Disk, p plan, n int) {
	t.Helper()
	what := fmt.Sprint(c.what, ", a fuse of ", n)
	got, should := d.Clone(), d.Clone()
	s, e := store.Open(got)
	want(t, what, e, api.OK)
	names := s.Names()
	got.Fuse(n)
	should.Fuse(n)
	want(t, what, inTurn(should, p.steps), api.ErrLost)
	uids, e := c.ask(s)
	if e != api.ErrLost || len(uids) != 0 {
		t.Errorf("%s: %v, %d", what, uids, e)
	}
	if !slices.Equal(s.Names(), names) {
		t.Errorf("%s: %q, want %q", what, s.Names(), names)
	}
	wantPicture(t, what, got, should)
	keep := keeps[n%len(keeps)]
	got.Restart(keep)
	should.Restart(keep)
	wantPicture(t, what, got, should)
}

func TestCalls(t *testing.T) {
	for _, name := range []string{"INBOX", "Z", "old/box", "a", "inbox", "", "older", "a b"} {
		for _, c := range calls(name) {
			d, s := opened(t, 1<<16, some())
			m := wantCall(t, c, d, s, some())
			wantStore(t, c.what, d, wantOpen(t, c.what, d, api.OK), m)
		}
	}
}

// One store goes on through all calls.
func TestCallsInTurn(t *testing.T) {
	d, _ := disk.New(1 << 16)
	s, _ := store.Open(d)
	m := plainStore{0: newBox("INBOX")}
	for _, name := range []string{"INBOX", "a", "b", "a/b", "INBOX"} {
		for _, c := range calls(name) {
			m = wantCall(t, c, d, s, m)
			m = wantCall(t, appendCall(name, api.Msg{Flags: 8, Octets: []byte(c.what)}), d, s, m)
		}
	}
	if len(m) != 4 || m[0].Next < 30 || m[1].Next < 12 || m[3].Next < 12 {
		t.Error("nearly nothing has happened", m[0].Next, m[1].Next, m[3].Next)
	}
}

func TestExactRoom(t *testing.T) {
	for _, name := range []string{"INBOX", "Z", "old/box", "a"} {
		for _, c := range calls(name) {
			need := c.plan(some(), 1<<16).need
			for room := max(need-3, 0); room < need+2; room++ {
				d, s := opened(t, 1<<16, some())
				leave(t, d, room)
				wantCall(t, c, d, s, some())
			}
			d, s := opened(t, 1<<16, some())
			leave(t, d, 0)
			p := c.plan(some(), 0)
			if c.plan(some(), 1<<16).steps != nil {
				want(t, c.what, p.e, api.ErrFull)
			}
			wantCall(t, c, d, s, some())
		}
	}
}

// A file new takes room till it is removed.
func TestRoomBesideNew(t *testing.T) {
	c := appendCall("INBOX", api.Msg{Octets: []byte("x")})
	p := c.plan(some(), 1<<16)
	for room := p.need - 1; room <= p.need; room++ {
		d, s := opened(t, 1<<16, some())
		want(t, "new", d.Harm("new", make([]byte, 99)), api.OK)
		leave(t, d, room)
		uid, e := s.Append("INBOX", api.Msg{Octets: []byte("x")})
		if room < p.need {
			if uid != 0 || e != api.ErrFull || !slices.Contains(d.Names(), "new") {
				t.Error(uid, e)
			}
			continue
		}
		if uid != 5 || e != api.OK || slices.Contains(d.Names(), "new") {
			t.Error(uid, e)
		}
		wantStore(t, "without new", d, wantOpen(t, "without new", d, api.OK), p.after)
	}
}

func TestCreateNames(t *testing.T) {
	d, s := opened(t, 1<<16, plainStore{0: newBox("INBOX")})
	m := plainStore{0: newBox("INBOX")}
	for _, name := range []string{"a", "A", "a/b/c", "INBOX/a", "inbox/a", "inboxx", ".", "-/_", strings.Repeat("n", 60), "0",
		"INBOX", "a", "inbox", "iNBOX", "", "/", "a/", "/a", "a//b", "a b", "a\n", "ä", "*", strings.Repeat("n", 61), "a\x00"} {
		m = wantCall(t, createCall(name), d, s, m)
	}
	if len(m) != 11 {
		t.Error(m.names())
	}
}

func TestCreateKeepsNoMemory(t *testing.T) {
	d, s := opened(t, 1<<16, plainStore{0: newBox("INBOX")})
	b := []byte("a long text, and box in it")
	want(t, "create", s.Create(string(b)[17:20]), api.OK)
	clear(b)
	wantStore(t, "box", d, s, plainStore{0: newBox("INBOX"), 1: newBox("box")})
}

func TestCreateTakesTheLeastFree(t *testing.T) {
	m := plainStore{3: newBox("INBOX"), 1: newBox("b"), 15: newBox("c")}
	d, s := opened(t, 1<<16, m)
	for n := range 13 {
		m = wantCall(t, createCall(fmt.Sprint("box", n)), d, s, m)
	}
	if len(m) != 16 || m[0].Name != "box0" || m[2].Name != "box1" || m[4].Name != "box2" || m[14].Name != "box12" {
		t.Error(m.names())
	}
	wantCall(t, createCall("more"), d, s, m)
	want(t, "one more", s.Create("more"), api.ErrMany)
	want(t, "there", s.Create("box12"), api.ErrTwice)
	want(t, "no name", s.Create("box 12"), api.ErrArg)
	leave(t, d, 0)
	want(t, "many, ahead of full", s.Create("more"), api.ErrMany)
	want(t, "no name, ahead of full", s.Create("box 12"), api.ErrArg)
}

// A page that has lost its log is no mailbox's any more.
func TestCreateOverPages(t *testing.T) {
	m := plainStore{0: newBox("INBOX")}
	d, s := opened(t, 1<<16, m)
	d.Harm("idx.1", []byte("spoilt"))
	d.Harm("flg.1", some()[0].flags())
	d.Harm("flg.2", nil)
	want(t, "create", s.Create("a"), api.OK)
	want(t, "create", s.Create("b"), api.OK)
	m = plainStore{0: m[0], 1: newBox("a"), 2: newBox("b")}
	wantStore(t, "created", d, wantOpen(t, "created", d, api.OK), m)
}

// Neither a mailbox whose log is lost, nor a log that the store doesn't know, gives its number away.
func TestCreateBesideOthers(t *testing.T) {
	d, s := opened(t, 1<<16, plainStore{0: newBox("INBOX"), 1: newBox("a")})
	d.Lose("log.1")
	d.Harm("log.2", newBox("somebody").log)
	want(t, "create", s.Create("b"), api.OK)
	if s.Number("a") != 1 || s.Number("b") != 3 || s.Number("somebody") != -1 {
		t.Error(s.Number("a"), s.Number("b"))
	}
	if got, _ := d.Read("log.2"); !bytes.Equal(got, newBox("somebody").log) {
		t.Errorf("%x", got)
	}
	if _, e := store.Whole(d, 3); e != api.OK {
		t.Error(e)
	}
}

// What other mailboxes are isn't asked.
func TestOthersMayBeDamaged(t *testing.T) {
	for _, harmed := range []string{"log.2", "idx.2", "flg.2", "tree", "new"} {
		d, s := opened(t, 1<<16, some())
		d.Harm(harmed, []byte("spoilt"))
		m := some()
		for _, c := range []call{
			appendCall("INBOX", api.Msg{Octets: []byte("x")}), storeCall("old/box", []uint32{1}, 8, 1), expungeCall("old/box", nil, true),
			copyCall("INBOX", "old/box", []uint32{1, 2}), createCall("a"),
		} {
			p := c.plan(m, d.Room())
			uids, e := c.ask(s)
			if e != api.OK || !slices.Equal(uids, p.uids) {
				t.Errorf("%s, %s: %v, %d", harmed, c.what, uids, e)
			}
			m = p.after
		}
		for _, n := range []int{0, 1, 3} {
			if b, e := store.Whole(d, n); e != api.OK || !sameBox(b, m[n].Box) {
				t.Errorf("%s, %d: %v, %d", harmed, n, b, e)
			}
		}
		want(t, "back", d.Harm("log.2", m[2].log), api.OK)
		want(t, "back", d.Harm("idx.2", m[2].index()), api.OK)
		want(t, "back", d.Harm("flg.2", m[2].flags()), api.OK)
		wantStore(t, harmed, d, wantOpen(t, harmed, d, api.OK), m)
	}
}

func TestDamaged(t *testing.T) {
	for _, harmed := range []string{"log", "idx", "flg"} {
		for _, bad := range [][]byte{nil, []byte("spoilt")} {
			d, s := opened(t, 1<<16, some())
			d.Harm(harmed+".0", bad)
			before := d.Clone()
			if b, e := s.Load("INBOX"); e != api.ErrDamaged || !sameBox(b, api.Box{}) {
				t.Error(harmed, b, e)
			}
			for _, c := range append(calls("INBOX"), copyCall("Z", "INBOX", nil), copyCall("INBOX", "Z", nil), copyCall("INBOX", "old/box", []uint32{1}),
				appendCall("INBOX", api.Msg{Flags: 99}), appendCall("INBOX", api.Msg{Octets: make([]byte, 20001)})) {
				wanted := api.ErrDamaged
				if strings.HasPrefix(c.what, "Create") {
					wanted = api.ErrTwice
				}
				if l, e := c.ask(s); e != wanted || len(l) != 0 {
					t.Error(harmed, c.what, l, e)
				}
			}
			wantPicture(t, harmed, d, before)
		}
	}
}

// Whole answers ErrNone of a mailbox whose log is lost, and so do those that ask it: of from first.
func TestLostLog(t *testing.T) {
	d, s := opened(t, 1<<16, some())
	d.Lose("log.0")
	d.Harm("idx.2", nil)
	before := d.Clone()
	for _, c := range []struct {
		what string
		got  api.Errno
		want api.Errno
	}{
		{"load", last(s.Load("INBOX")), api.ErrNone},
		{"append", last(s.Append("INBOX", api.Msg{Flags: 99})), api.ErrNone},
		{"store", s.Store("INBOX", nil, 0, 0), api.ErrNone},
		{"expunge", last(s.Expunge("INBOX", nil, true)), api.ErrNone},
		{"from none to damaged", last(s.Copy("INBOX", "Z", nil)), api.ErrNone},
		{"from damaged to none", last(s.Copy("Z", "INBOX", nil)), api.ErrDamaged},
		{"from whole to none", last(s.Copy("old/box", "INBOX", nil)), api.ErrNone},
		{"from none to whole", last(s.Copy("INBOX", "old/box", nil)), api.ErrNone},
		{"from damaged to whole", last(s.Copy("Z", "old/box", nil)), api.ErrDamaged},
		{"from whole to damaged", last(s.Copy("old/box", "Z", nil)), api.ErrDamaged},
		{"from damaged to what isn't", last(s.Copy("Z", "b", nil)), api.ErrNone},
		{"from what isn't to damaged", last(s.Copy("b", "Z", nil)), api.ErrNone},
	} {
		want(t, c.what, c.got, c.want)
	}
	wantPicture(t, "asked", d, before)
}

func last[T any](_ T, e api.Errno) api.Errno { return e }

// Names are asked for ahead of the power, and the power ahead of all else.
func TestWithoutPower(t *testing.T) {
	d, s := opened(t, 1<<16, some())
	d.Harm("idx.2", nil)
	d.Lose("log.3")
	d.Fuse(0)
	d.Append("log.0", nil)
	for _, name := range []string{"INBOX", "Z", "old/box", "a", "inbox", ""} {
		is := s.Number(name) >= 0
		wanted := api.ErrNone
		if is {
			wanted = api.ErrLost
		}
		b, e := s.Load(name)
		if e != wanted || !sameBox(b, api.Box{}) {
			t.Error(name, b, e)
		}
		for _, c := range append(calls(name), appendCall(name, api.Msg{Flags: 99}), copyCall(name, "Z", nil), copyCall("old/box", name, nil)) {
			wanted := wanted
			if strings.HasPrefix(c.what, "Create") {
				wanted = api.ErrLost
				if is {
					wanted = api.ErrTwice
				}
			}
			if l, e := c.ask(s); e != wanted || len(l) != 0 {
				t.Errorf("%s: %v, %d, want %d", c.what, l, e, wanted)
			}
		}
	}
	for _, c := range []call{copyCall("b", "INBOX", nil), copyCall("INBOX", "b", nil), copyCall("b", "b", nil)} {
		if _, e := c.ask(s); e != api.ErrNone {
			t.Error(c.what, e)
		}
	}
	want(t, "no name", s.Create("a b"), api.ErrLost)
}

func TestLayerTwelvesErrors(t *testing.T) {
	full := newBox("full")
	for range 499 {
		full = full.with(api.Msg{Flags: 8})
	}
	end := plainBox{Box: api.Box{Name: "end", Epoch: 1, Next: lastUID - 1}, log: slices.Concat(boxFrame(1, "end"), goneFrame(1, lastUID-2))}
	m := plainStore{0: some()[0], 1: full, 2: end}
	d, s := opened(t, 1<<17, m)
	big := api.Msg{Octets: make([]byte, 20001)}
	for _, room := range []int{-1, 100} {
		if room >= 0 {
			leave(t, d, room)
		}
		for _, c := range []call{
			appendCall("INBOX", api.Msg{Date: -1}), appendCall("INBOX", api.Msg{Date: 253402300800}), appendCall("INBOX", api.Msg{Flags: -1}), appendCall("INBOX", api.Msg{Flags: 32}),
			appendCall("INBOX", api.Msg{Flags: 32, Octets: big.Octets}), appendCall("INBOX", big),
			appendCall("full", api.Msg{}), appendCall("full", api.Msg{}), appendCall("full", big), appendCall("full", api.Msg{Flags: 32}),
			copyCall("INBOX", "full", []uint32{1}), copyCall("full", "full", []uint32{1}), copyCall("INBOX", "full", []uint32{3}),
			appendCall("end", api.Msg{Date: 1, UID: 7}), appendCall("end", api.Msg{}), copyCall("INBOX", "end", []uint32{1}), copyCall("end", "end", []uint32{lastUID - 1}),
			expungeCall("end", nil, true), storeCall("end", []uint32{lastUID - 1}, 8, 0), expungeCall("end", nil, true), appendCall("end", api.Msg{}),
		} {
			m = wantCall(t, c, d, s, m)
		}
	}
	wantStore(t, "in the end", d, wantOpen(t, "in the end", d, api.OK), m)
}

// What is copied comes all, or not at all.
func TestCopyOfTooMany(t *testing.T) {
	nearly := newBox("nearly")
	for range 498 {
		nearly = nearly.with(api.Msg{})
	}
	end := plainBox{Box: api.Box{Name: "end", Epoch: 1, Next: lastUID - 2}, log: slices.Concat(boxFrame(1, "end"), goneFrame(1, lastUID-3))}
	m := plainStore{0: some()[0], 1: nearly, 2: end}
	d, s := opened(t, 1<<17, m)
	for _, to := range []string{"nearly", "end"} {
		m = wantCall(t, copyCall("INBOX", to, []uint32{4, 2, 1}), d, s, m)
		m = wantCall(t, copyCall("INBOX", to, []uint32{4, 1}), d, s, m)
		m = wantCall(t, copyCall("INBOX", to, []uint32{1}), d, s, m)
	}
	if len(m[1].Msgs) != 500 || len(m[2].Msgs) != 2 {
		t.Error(len(m[1].Msgs), len(m[2].Msgs))
	}
}

func TestAppendOfEdges(t *testing.T) {
	d, s := opened(t, 1<<17, some())
	m := some()
	for _, msg := range []api.Msg{{}, {Date: 253402300799, Flags: 31, UID: lastUID, Octets: make([]byte, 20000)}, {Octets: bytes.Repeat([]byte{0xff, 0, '\r', '\n'}, 50)}, {Octets: boxFrame(9, "INBOX")}, {Octets: some()[0].log}, {Octets: []byte{}}} {
		for _, name := range []string{"INBOX", "old/box", "Z"} {
			m = wantCall(t, appendCall(name, msg), d, s, m)
		}
	}
	wantStore(t, "opened again", d, wantOpen(t, "opened again", d, api.OK), m)
}

func TestStoreInAllWays(t *testing.T) {
	d, s := opened(t, 1<<16, some())
	m := some()
	for flags := -1; flags < 34; flags++ {
		for how := -1; how < 4; how++ {
			c := storeCall("INBOX", []uint32{4, 1, 1, 3, 0, lastUID}, flags, how)
			p := c.plan(m, d.Room())
			if l, e := c.ask(s); e != api.OK || len(l) != 0 {
				t.Fatal(flags, how, e)
			}
			m = p.after
			wantStore(t, c.what, d, s, m)
		}
	}
	for _, flags := range []int{math.MinInt, math.MaxInt, 1 << 40} {
		for _, how := range []int{math.MinInt, math.MaxInt, 0, 1, 2} {
			m = wantCall(t, storeCall("old/box", []uint32{1, 2}, flags, how), d, s, m)
		}
	}
}

// What is stored is laid, though it is what was there; what takes nothing away, or copies nothing, does nothing.
func TestOfNothing(t *testing.T) {
	d, s := opened(t, 1<<16, some())
	lays := func(what string, changes int, ask func(s *store.Store) api.Errno) {
		t.Helper()
		for n := range changes + 1 {
			c := d.Clone()
			s, _ := store.Open(c)
			c.Fuse(n)
			wanted := api.ErrLost
			if n == changes {
				wanted = api.OK
			}
			want(t, fmt.Sprint(what, n), ask(s), wanted)
		}
	}
	lays("store", 6, func(s *store.Store) api.Errno { return s.Store("INBOX", nil, 0, 0) })
	lays("store", 6, func(s *store.Store) api.Errno { return s.Store("Z", []uint32{1}, 1, 0) })
	lays("expunge", 0, func(s *store.Store) api.Errno { return last(s.Expunge("INBOX", []uint32{1, 3}, false)) })
	lays("expunge", 0, func(s *store.Store) api.Errno { return last(s.Expunge("Z", nil, true)) })
	lays("copy", 0, func(s *store.Store) api.Errno { return last(s.Copy("INBOX", "Z", []uint32{3, 9})) })
	lays("copy", 0, func(s *store.Store) api.Errno { return last(s.Copy("INBOX", "INBOX", nil)) })
	lays("load", 0, func(s *store.Store) api.Errno { return last(s.Load("INBOX")) })
	lays("expunge", 8, func(s *store.Store) api.Errno { return last(s.Expunge("old/box", nil, true)) })
	lays("copy", 9, func(s *store.Store) api.Errno { return last(s.Copy("INBOX", "Z", []uint32{1, 4})) })
	lays("append", 8, func(s *store.Store) api.Errno { return last(s.Append("INBOX", api.Msg{})) })
	lays("create", 11, func(s *store.Store) api.Errno { return s.Create("a") })
	leave(t, d, 0)
	if l, e := s.Expunge("INBOX", []uint32{1}, false); e != api.OK || len(l) != 0 {
		t.Error(l, e)
	}
	if l, e := s.Copy("INBOX", "Z", []uint32{3}); e != api.OK || len(l) != 0 {
		t.Error(l, e)
	}
	want(t, "store", s.Store("Z", nil, 0, 0), api.ErrFull)
}

func TestNothingIsHandedOn(t *testing.T) {
	d, s := opened(t, 1<<16, some())
	whole := []byte("octets, and spare room")
	uids := append(make([]uint32, 0, 9), 4, 2, 1)
	m := some()
	for _, c := range []call{
		appendCall("Z", api.Msg{Octets: whole[:6]}), copyCall("INBOX", "Z", uids), storeCall("Z", uids, 8, 0), expungeCall("Z", uids, false),
	} {
		p := c.plan(m, d.Room())
		got, e := c.ask(s)
		if e != api.OK || !slices.Equal(got, p.uids) {
			t.Fatal(c.what, got, e)
		}
		if string(whole) != "octets, and spare room" || !slices.Equal(uids[:9], []uint32{4, 2, 1, 0, 0, 0, 0, 0, 0}) {
			t.Error(c.what, whole, uids[:9])
		}
		clear(got[:cap(got)])
		m = p.after
		wantStore(t, c.what, d, s, m)
	}
	clear(whole)
	wantStore(t, "cleared", d, s, m)
}

// A store that is copied as a value goes its own way in what it knows of names.
func TestCopiesOfStores(t *testing.T) {
	_, s := opened(t, 1<<16, some())
	c := *s
	want(t, "create", c.Create("a"), api.OK)
	if c.Number("a") != 1 || s.Number("a") != -1 || !slices.Equal(s.Names(), some().names()) {
		t.Error(c.Number("a"), s.Names())
	}
}

// Behind a loss of power in the middle a mailbox is as it was, or damaged, or as it should be, and never something else.
func TestBehindALoss(t *testing.T) {
	for _, name := range []string{"INBOX", "old/box", "a"} {
		for _, c := range calls(name) {
			p := c.plan(some(), 1<<16)
			for n := range p.steps {
				for _, keep := range keeps {
					d, s := opened(t, 1<<16, some())
					d.Fuse(n)
					c.ask(s)
					d.Restart(keep)
					for was, b := range some() {
						got, e := s.Load(b.Name)
						if e != api.ErrDamaged && (e != api.OK || !sameBox(got, b.Box) && !sameBox(got, p.after[was].Box)) {
							t.Errorf("%s, a fuse of %d: %v, %d", c.what, n, got, e)
						}
					}
				}
			}
		}
	}
}

func TestLongOnes(t *testing.T) {
	began := time.Now()
	m := some()
	d, s := opened(t, 1<<16, m)
	uids := make([]uint32, 1<<22)
	for n := range uids {
		uids[n] = uint32(n)
	}
	name := strings.Repeat("n", 1<<24)
	if s.Number(name) != -1 || s.Create(name) != api.ErrArg || s.Store(name, uids, 0, 0) != api.ErrNone {
		t.Error("a long name")
	}
	want(t, "store", s.Store("INBOX", uids, 8, 1), api.OK)
	if l, e := s.Copy("INBOX", "Z", uids); e != api.OK || !slices.Equal(l, []uint32{1, 2, 3}) {
		t.Error(l, e)
	}
	if l, e := s.Expunge("INBOX", uids, false); e != api.OK || !slices.Equal(l, []uint32{1, 2, 4}) {
		t.Error(l, e)
	}
	want(t, "append", last(s.Append("INBOX", api.Msg{Octets: make([]byte, 1<<26)})), api.ErrLong)
	want(t, "lay", store.Lay(d, "a", make([]byte, 1<<26)), api.ErrFull)
	if time.Since(began) > time.Minute {
		t.Error("it took", time.Since(began))
	}
}

// The greatest disk, full of mail.
func TestFullDisk(t *testing.T) {
	began := time.Now()
	d, _ := disk.New(1 << 22)
	s, e := store.Open(d)
	want(t, "open", e, api.OK)
	msg := api.Msg{Octets: make([]byte, 20000)}
	want(t, "first", last(s.Append("INBOX", msg)), api.OK)
	var uids []uint32
	for came := uint32(1); e == api.OK; came *= 2 {
		uids = append(uids, came)
		for uid := came + 1; uid < 2*came; uid++ {
			uids = append(uids, uid)
		}
		before := d.Clone()
		_, e = s.Copy("INBOX", "INBOX", uids)
		if e != api.OK {
			wantPicture(t, "full", d, before)
		}
	}
	want(t, "full", e, api.ErrFull)
	b, e := s.Load("INBOX")
	want(t, "load", e, api.OK)
	came := uint32(len(b.Msgs))
	for {
		uid, e := s.Append("INBOX", msg)
		if e != api.OK {
			want(t, "full", e, api.ErrFull)
			break
		}
		came++
		if uid != came {
			t.Fatal(uid, came)
		}
	}
	if b, e := s.Load("INBOX"); e != api.OK || len(b.Msgs) != int(came) || came < 200 {
		t.Error(e, came)
	}
	want(t, "store", s.Store("INBOX", []uint32{1, came}, 8, 1), api.OK)
	if l, e := s.Expunge("INBOX", nil, true); e != api.OK || !slices.Equal(l, []uint32{1, came}) {
		t.Error(l, e)
	}
	wantOpen(t, "full", d, api.OK)
	if time.Since(began) > time.Minute {
		t.Error("it took", time.Since(began))
	}
}

package repair_test

import (
	"bytes"
	"fmt"
	"math"
	"slices"
	"strings"
	"testing"
	"time"

	"cubby/api"
	"cubby/disk"
	"cubby/repair"
	"cubby/store"
)

func msg(uid uint32, flags int) api.Msg {
	return api.Msg{UID: uid, Date: int64(uid) * 3, Flags: flags, Octets: []byte(strings.Repeat("o", int(uid%7)))}
}

// damaged answers a record with another byte at the end of its payload.
func damaged(f []byte) []byte {
	f = bytes.Clone(f)
	f[len(f)-1]++
	return f
}

// some is the log of a mailbox of three messages; one more is gone, and one is the last that ever came.
func some() []byte {
	return slices.Concat(boxFrame(1, "a"), messageFrame(1, "a", msg(1, 0)), messageFrame(1, "a", msg(2, 9)), messageFrame(1, "a", msg(3, 8)), goneFrame(1, 3),
		messageFrame(1, "a", msg(5, 31)), messageFrame(1, "a", msg(9, 8)), goneFrame(1, 9))
}

// logs are logs of all kinds.
func logs() map[string][]byte {
	a := func(epoch int64, uid uint32, flags int) []byte { return messageFrame(epoch, "a", msg(uid, flags)) }
	long := strings.Repeat("n", 60)
	return map[string][]byte{
		"a box":                        boxFrame(1, "INBOX"),
		"a long name":                  slices.Concat(boxFrame(7, long), messageFrame(7, long, msg(4, 4))),
		"some":                         some(),
		"a message alone":              a(3, 6, 1),
		"one gone of another":          slices.Concat(boxFrame(3, "a"), a(3, 1, 1), goneFrame(2, 1), goneFrame(3, 2)),
		"named anew":                   slices.Concat(boxFrame(1, "b"), messageFrame(1, "b", msg(1, 2)), boxFrame(1, "c/d")),
		"an epoch anew":                slices.Concat(boxFrame(1, "a"), a(1, 4, 1), goneFrame(1, 4), boxFrame(2, "a"), a(2, 1, 5)),
		"junk ahead":                   slices.Concat([]byte("cubby"), some()),
		"junk between":                 slices.Concat(boxFrame(1, "a"), a(1, 1, 3), []byte("junk, cub"), a(1, 2, 4)),
		"a damaged message":            slices.Concat(boxFrame(1, "a"), a(1, 1, 3), damaged(a(1, 2, 4)), a(1, 3, 2)),
		"a damaged last one":           slices.Concat(boxFrame(1, "a"), a(1, 1, 3), damaged(a(1, 2, 4))),
		"a record that is no note":     slices.Concat(boxFrame(1, "a"), a(1, 1, 3), plainFrame(2, []byte("what?"))),
		"the last UID but one":         slices.Concat(boxFrame(1, "a"), a(1, lastUID-1, 3)),
		"the last UID gone":            slices.Concat(boxFrame(1, "a"), a(1, 7, 3), goneFrame(1, lastUID)),
		"the last but one gone":        slices.Concat(boxFrame(lastUID, "a"), goneFrame(lastUID, lastUID-1)),
		"torn: junk":                   slices.Concat(some(), []byte("x")),
		"torn: much junk":              slices.Concat(some(), []byte("cubcubcub"), make([]byte, 100)),
		"torn: half a head":            slices.Concat(some(), a(1, 10, 1)[:20]),
		"torn: a head":                 slices.Concat(some(), a(1, 10, 1)[:44]),
		"torn: but for a byte":         slices.Concat(some(), a(1, 10, 1)[:len(a(1, 10, 1))-1]),
		"torn: junk, and a head":       slices.Concat(some(), []byte("junk"), a(1, 10, 1)[:50]),
		"torn: ahead of the last name": slices.Concat(a(1, 10, 1), boxFrame(1, "b")[:50]),
		"torn: the last UID but one":   slices.Concat(boxFrame(1, "a"), a(1, lastUID-1, 3), []byte("x")),
		"torn: the last UID gone":      slices.Concat(boxFrame(1, "a"), a(1, 7, 3), goneFrame(1, lastUID), []byte("x")),
		"torn: next far behind":        slices.Concat(boxFrame(4, "a"), a(4, 7, 3), goneFrame(4, 1000), []byte("x")),
		"torn: an epoch anew":          slices.Concat(a(1, 4, 1), goneFrame(1, 4), boxFrame(2, "a"), a(2, 1, 5), []byte("x")),
		"torn: named anew":             slices.Concat(boxFrame(1, "b"), messageFrame(1, "b", msg(1, 2)), boxFrame(1, "c/d"), []byte("x")),
		"not clean: twice":             slices.Concat(some(), a(1, 9, 7), a(1, 9, 6)),
		"not clean: falling":           slices.Concat(boxFrame(1, "a"), a(1, 3, 1), a(1, 2, 2), a(1, 7, 3), a(1, 1, 4)),
		"not clean: an epoch before":   slices.Concat(some(), boxFrame(2, "a"), a(2, 7, 2)),
		"not clean: another's epoch":   slices.Concat(some(), goneFrame(8, 1)),
		"not clean: the last UID":      slices.Concat(boxFrame(1, "a"), a(1, 2, 1), a(1, lastUID, 3)),
		"not clean: the last epoch":    slices.Concat(boxFrame(lastUID, "a"), a(lastUID, 2, 1), a(lastUID, 2, 3)),
		"not clean: before the last":   slices.Concat(boxFrame(lastUID-1, "a"), a(lastUID-1, 2, 1), a(lastUID-1, 2, 3)),
		"not clean: torn":              slices.Concat(boxFrame(1, "b"), a(1, 2, 1), a(1, 2, 3), a(1, 8, 1)[:60]),
		"no name: one gone":            goneFrame(5, 6),
		"no name: the last gone":       goneFrame(lastUID, lastUID),
		"no name: a damaged box":       slices.Concat(damaged(boxFrame(1, "a")), goneFrame(2, 1), goneFrame(1, 8)),
		"no name: torn":                slices.Concat(goneFrame(5, 6), []byte("x")),
		"nothing":                      nil,
		"nothing: junk":                []byte("garbage"),
		"nothing: a damaged box":       damaged(boxFrame(3, "a")),
		"nothing: no note":             plainFrame(1, nil),
		"nothing: another INBOX":       boxFrame(3, "inbox"),
		"nothing: half a box":          boxFrame(3, "a")[:50],
	}
}

// pagesFor are what may stand in place of the pages of a log: nothing, damaged ones, those of others, and right ones.
func pagesFor(log []byte) (idx, flg map[string][]byte) {
	is := boxIn(log)
	again := is
	if is.torn || !is.clean || is.Name == "" {
		again = is.anew(5)
	}
	turned := is
	turned.Msgs = slices.Clone(is.Msgs)
	for k := range turned.Msgs {
		turned.Msgs[k].Flags ^= 21
	}
	epoch := turned
	epoch.Epoch++
	next := is
	next.Next++
	more := turned
	more.Msgs = append([]api.Msg{{UID: 1, Flags: 7}}, slices.Clone(turned.Msgs)...)
	if len(is.Msgs) > 0 && is.Msgs[0].UID == 1 {
		more.Msgs = append(more.Msgs[1:], api.Msg{UID: 1000000, Flags: 7})
	}
	fewer := turned
	fewer.Msgs = turned.Msgs[len(turned.Msgs)/2:]
	wild := turned
	wild.Msgs = append(slices.Clone(turned.Msgs), api.Msg{UID: lastUID, Flags: 32})
	other := boxIn(slices.Concat(boxFrame(1, "a"), messageFrame(1, "a", msg(77, 7))))
	idx = map[string][]byte{"right": is.index(), "empty": {}, "spoilt": []byte("spoilt"), "next": next.index(), "other": other.index(), "flags": is.flags(), "long": append(is.index(), 0), "again": again.index()}
	flg = map[string][]byte{"right": is.flags(), "turned": turned.flags(), "empty": {}, "spoilt": []byte("spoilt"), "epoch": epoch.flags(), "more": more.flags(), "fewer": fewer.flags(), "wild": wild.flags(),
		"other": other.flags(), "index": is.index(), "again": again.flags(), "cut": turned.flags()[1:]}
	idx["none"], flg["none"] = nil, nil
	return idx, flg
}

// filesOf are a mailbox's files; a page that is nil isn't there.
func filesOf(n int, log, idx, flg []byte) map[string][]byte {
	files := map[string][]byte{fmt.Sprint("log.", n): log}
	if idx != nil {
		files[fmt.Sprint("idx.", n)] = idx
	}
	if flg != nil {
		files[fmt.Sprint("flg.", n)] = flg
	}
	return files
}

// By hand

func TestMendByHand(t *testing.T) {
	is := boxIn(some())
	d := diskOf(t, 1<<16, filesOf(3, some(), []byte("spoilt"), is.flags()))
	b, e := repair.Mend(d, 3)
	wantBox(t, "mended", b, e, api.Box{Name: "a", Epoch: 1, Next: 10, Msgs: []api.Msg{msg(1, 0), msg(2, 9), msg(5, 31)}}, api.OK)
	wantPicture(t, "an index", d, diskOf(t, 1<<16, map[string][]byte{"log.3": some(), "idx.3": is.index(), "flg.3": is.flags(), "bad.0.idx.3": []byte("spoilt")}))
	want(t, "spoil", d.Harm("idx.3", []byte("and again")), api.OK)
	want(t, "spoil", d.Harm("flg.3", nil), api.OK)
	b, e = repair.Mend(d, 3)
	wantBox(t, "mended again", b, e, is.Box, api.OK)
	wantPicture(t, "both", d, diskOf(t, 1<<16, map[string][]byte{"log.3": some(), "idx.3": is.index(), "flg.3": is.flags(),
		"bad.0.idx.3": []byte("spoilt"), "bad.1.idx.3": []byte("and again"), "bad.0.flg.3": nil}))
}

func TestMendOfTornByHand(t *testing.T) {
	is := boxIn(some())
	is.Msgs[0].Flags = 4
	log := slices.Concat(boxFrame(1, "a"), messageFrame(1, "a", msg(1, 0)), messageFrame(1, "a", msg(2, 9)), messageFrame(1, "a", msg(5, 31)), goneFrame(1, 9))
	d := diskOf(t, 1<<16, filesOf(0, append(some(), "cub"...), is.index(), is.flags()))
	b, e := repair.Mend(d, 0)
	wantBox(t, "mended", b, e, is.Box, api.OK)
	again := boxIn(log)
	again.Msgs[0].Flags = 4
	wantPicture(t, "torn", d, diskOf(t, 1<<16, map[string][]byte{"log.0": log, "idx.0": again.index(), "flg.0": again.flags(), "bad.0.idx.0": is.index(), "bad.0.flg.0": is.flags()}))
}

func TestMendOfUncleanByHand(t *testing.T) {
	log := slices.Concat(some(), messageFrame(1, "a", msg(2, 3)))
	flg := boxIn(some()).flags()
	d := diskOf(t, 1<<16, filesOf(0, log, nil, flg))
	b, e := repair.Mend(d, 0)
	one, two, five, twice := msg(1, 0), msg(2, 9), msg(5, 31), msg(2, 3)
	five.UID, twice.UID = 3, 4
	wantBox(t, "mended", b, e, api.Box{Name: "a", Epoch: 2, Next: 5, Msgs: []api.Msg{one, two, five, twice}}, api.OK)
	log = slices.Concat(boxFrame(2, "a"), messageFrame(2, "a", one), messageFrame(2, "a", two), messageFrame(2, "a", five), messageFrame(2, "a", twice))
	wantPicture(t, "not clean", d, diskOf(t, 1<<16, map[string][]byte{"log.0": log, "idx.0": boxIn(log).index(), "flg.0": boxIn(log).flags(), "bad.0.flg.0": flg}))
}

func TestMendOfNamelessByHand(t *testing.T) {
	for what, c := range map[string]struct{ was, is []byte }{
		"nothing":  {nil, boxFrame(1, "lost.12")},
		"junk":     {[]byte("junk"), boxFrame(1, "lost.12")},
		"one gone": {goneFrame(5, 6), slices.Concat(boxFrame(5, "lost.12"), goneFrame(5, 6))},
		"the last": {goneFrame(lastUID, lastUID), slices.Concat(boxFrame(lastUID, "lost.12"), goneFrame(lastUID, lastUID-1))},
	} {
		d := diskOf(t, 1<<16, filesOf(12, c.was, nil, nil))
		b, e := repair.Mend(d, 12)
		wantBox(t, what, b, e, boxIn(c.is).Box, api.OK)
		wantPicture(t, what, d, diskOf(t, 1<<16, filesOf(12, c.is, boxIn(c.is).index(), boxIn(c.is).flags())))
	}
}

// All logs, with all pages

func TestMend(t *testing.T) {
	for name, log := range logs() {
		idx, flg := pagesFor(log)
		for iName, i := range idx {
			for fName, f := range flg {
				what := fmt.Sprintf("%s, index %s, flags %s", name, iName, fName)
				d := diskOf(t, 1<<16, filesOf(5, log, i, f))
				wantLost(t, what, d, 5)
				wantMended(t, what, d, 5)
			}
		}
		if t.Failed() {
			return
		}
	}
}

func TestMendOfEachByteTurned(t *testing.T) {
	is := boxIn(some())
	is.Msgs[1].Flags = 2
	for _, name := range []string{"log.5", "idx.5", "flg.5"} {
		files := filesOf(5, some(), is.index(), is.flags())
		for at := range files[name] {
			for _, by := range []byte{1, 1 << (at % 8), 255} {
				b := bytes.Clone(files[name])
				b[at] ^= by
				d := diskOf(t, 1<<16, files)
				want(t, name, d.Harm(name, b), api.OK)
				wantMended(t, fmt.Sprintf("%s, byte %d turned by %d", name, at, by), d, 5)
			}
		}
	}
}

func TestMendOfEachCut(t *testing.T) {
	is := boxIn(some())
	is.Msgs[1].Flags = 2
	for _, name := range []string{"log.5", "idx.5", "flg.5"} {
		files := filesOf(5, some(), is.index(), is.flags())
		for at := range files[name] {
			for _, b := range [][]byte{files[name][:at], files[name][at:], slices.Concat(files[name], files[name][:at]), slices.Insert(bytes.Clone(files[name]), at, 'c')} {
				d := diskOf(t, 1<<16, files)
				want(t, name, d.Harm(name, b), api.OK)
				wantMended(t, fmt.Sprintf("%s of %d bytes, at %d", name, len(b), at), d, 5)
			}
		}
	}
}

// Whatever pages are lost or damaged, a clean log's mailbox is the same, but for flags.
func TestCleanStays(t *testing.T) {
	for name, log := range logs() {
		is := boxIn(log)
		if !is.clean || is.Name == "" {
			continue
		}
		idx, flg := pagesFor(log)
		for _, i := range idx {
			for _, f := range flg {
				b, e := repair.Mend(diskOf(t, 1<<16, filesOf(5, log, i, f)), 5)
				wantBox(t, name, withoutFlags(b), e, withoutFlags(is.Box), api.OK)
			}
		}
	}
}

func TestFlagsStay(t *testing.T) {
	is := boxIn(some())
	for flags := range 32 {
		is.Msgs[0].Flags, is.Msgs[2].Flags = flags, 31-flags
		for _, log := range [][]byte{some(), append(some(), 'x')} {
			b, e := repair.Mend(diskOf(t, 1<<16, filesOf(0, log, nil, is.flags())), 0)
			wantBox(t, flags, b, e, is.Box, api.OK)
		}
	}
}

// What isn't asked

func TestMendOfWhole(t *testing.T) {
	is := boxIn(some())
	is.Msgs[1].Flags = 2
	files := filesOf(5, some(), is.index(), is.flags())
	files["new"], files["tree"], files["idx.1"], files["log.7"], files["bad.0.idx.5"] = []byte("x"), nil, []byte("x"), []byte("x"), []byte("y")
	d := diskOf(t, 1<<16, files)
	before := d.Clone()
	d.Fuse(0)
	b, e := repair.Mend(d, 5)
	wantBox(t, "whole", b, e, is.Box, api.OK)
	wantPicture(t, "whole", d, before)
	b, e = repair.Mend(d, 7)
	wantBox(t, "the fuse is left", b, e, api.Box{}, api.ErrLost)

	unsafe, _ := disk.New(1 << 16)
	for name, b := range files {
		want(t, name, unsafe.Append(name, b), api.OK)
	}
	before = unsafe.Clone()
	b, e = repair.Mend(unsafe, 5)
	wantBox(t, "not safe", b, e, is.Box, api.OK)
	wantPicture(t, "not safe", unsafe, before)
}

// Neither the other mailboxes' files, nor those that others put aside, are touched; new is removed where something is laid.
func TestMendAmongOthers(t *testing.T) {
	for name, log := range logs() {
		files := filesOf(1, log, []byte("i"), []byte("f"))
		for _, name := range []string{"tree", "log.0", "idx.0", "flg.0", "log.10", "idx.10", "flg.10", "log.11", "idx.01", "bad.0.idx.1", "bad.1.idx.1", "bad.3.idx.1", "bad.0.flg.10", "bad.00.flg.1", "bad.1.flg.1", "new", "x"} {
			files[name] = []byte(name)
		}
		d := diskOf(t, 1<<16, files)
		wantLost(t, name, d, 1)
		wantMended(t, name, d, 1)
		for _, name := range []string{"bad.0.flg.1", "bad.2.idx.1"} {
			if b, e := d.Read(name); e != api.OK || string(b) != name[6:7] {
				t.Errorf("%s: %q, %d", name, b, e)
			}
		}
	}
}

// What isn't safe is put aside all the same, as it was.
func TestMendOfUnsafe(t *testing.T) {
	for name, log := range logs() {
		for _, safe := range []string{"", "log.5", "idx.5", "flg.5"} {
			d, _ := disk.New(1 << 16)
			for name, b := range filesOf(5, log, []byte("spoilt"), boxIn(log).flags()[1:]) {
				want(t, name, d.Append(name, b), api.OK)
				if name == safe {
					want(t, name, d.Sync(name), api.OK)
				}
			}
			m := mendingOf(d, 5)
			for at := range m.steps {
				got, should := d.Clone(), d.Clone()
				got.Fuse(at)
				should.Fuse(at)
				want(t, name, inTurn(should, m.steps), api.ErrLost)
				b, e := repair.Mend(got, 5)
				wantBox(t, name, b, e, api.Box{}, api.ErrLost)
				wantPicture(t, fmt.Sprint(name, at), got, should)
			}
			wantMended(t, name, d, 5)
		}
	}
}

// Errors

func TestMendErrors(t *testing.T) {
	is := boxIn(some())
	files := filesOf(5, some(), is.index(), nil)
	files["idx.6"], files["flg.6"], files["log.00"], files["log.05"] = is.index(), is.flags(), some(), some()
	d := diskOf(t, 1<<16, files)
	before := d.Clone()
	for _, n := range []int{math.MinInt, -5, -1, 0, 1, 6, 15, 16, 50, math.MaxInt} {
		b, e := repair.Mend(nil, n)
		wantBox(t, n, b, e, api.Box{}, api.ErrArg)
		b, e = repair.Mend(lostDisk(t, files), n)
		wantBox(t, n, b, e, api.Box{}, api.ErrLost)
		b, e = repair.Mend(d, n)
		wantBox(t, n, b, e, api.Box{}, api.ErrNone)
	}
	for _, files := range []map[string][]byte{files, filesOf(5, some(), is.index(), is.flags()), filesOf(5, nil, nil, nil)} {
		lost := lostDisk(t, files)
		before := lost.Clone()
		b, e := repair.Mend(lost, 5)
		wantBox(t, "lost", b, e, api.Box{}, api.ErrLost)
		wantPicture(t, "lost", lost, before)
	}
	wantPicture(t, "not there", d, before)
	b, e := repair.Mend(&disk.Disk{}, 0)
	wantBox(t, "no disk's value", b, e, api.Box{}, api.ErrNone)
}

// A number is one as long as there is a log of it.
func TestMendOfGreatNumbers(t *testing.T) {
	for _, n := range []int{0, 9, 10, 15, 16, 200, math.MaxInt} {
		for _, log := range [][]byte{some(), append(some(), 'x'), nil} {
			d := diskOf(t, 1<<16, filesOf(n, log, []byte("spoilt"), nil))
			wantLost(t, n, d, n)
			wantMended(t, n, d, n)
		}
	}
}

func many(from, to int) []byte {
	frames := [][]byte{boxFrame(1, "a")}
	for uid := from; uid <= to; uid++ {
		frames = append(frames, messageFrame(1, "a", msg(uint32(uid), uid%32)))
	}
	return slices.Concat(frames...)
}

func TestMendOfMany(t *testing.T) {
	for _, c := range []struct {
		what string
		log  []byte
		e    api.Errno
	}{
		{"500", many(1, 500), api.OK},
		{"500, torn", append(many(1, 500), "cub"...), api.OK},
		{"500, not clean", slices.Concat(many(250, 499), many(250, 499)), api.OK},
		{"501", many(1, 501), api.ErrMany},
		{"501, torn", append(many(1, 501), "cub"...), api.ErrMany},
		{"501, not clean", slices.Concat(many(250, 499), many(250, 500)), api.ErrMany},
		{"501, and one gone", slices.Concat(many(1, 501), goneFrame(1, 7)), api.OK},
		{"501, and one gone of another epoch", slices.Concat(many(1, 501), boxFrame(2, "a"), goneFrame(2, 7)), api.ErrMany},
		{"501, of which one is damaged", slices.Concat(many(1, 500), damaged(messageFrame(1, "a", msg(501, 0)))), api.OK},
		{"2000", many(1, 2000), api.ErrMany},
		{"2000, and none", slices.Concat(many(1, 2000), goneOf(1, 2000)), api.OK},
	} {
		want(t, c.what, mendingOf(diskOf(t, 1<<20, filesOf(2, c.log, nil, nil)), 2).e, c.e)
		files := filesOf(2, c.log, []byte("i"), []byte("f"))
		wantMended(t, c.what, diskOf(t, 1<<20, files), 2)
		if c.e != api.OK {
			d := diskOf(t, len(c.log)+2, files)
			b, e := repair.Mend(d, 2)
			wantBox(t, "many, ahead of full", b, e, api.Box{}, api.ErrMany)
			b, e = repair.Mend(lostDisk(t, files), 2)
			wantBox(t, "lost, ahead of many", b, e, api.Box{}, api.ErrLost)
		}
	}
}

func goneOf(from, to int) []byte {
	var frames [][]byte
	for uid := from; uid <= to; uid++ {
		frames = append(frames, goneFrame(1, int64(uid)))
	}
	return slices.Concat(frames...)
}

// A disk that hasn't room for all of it is left as it is, and answers the same wherever the power goes.
func TestMendWithoutRoom(t *testing.T) {
	full, mended := 0, 0
	for name, log := range logs() {
		for pages := range 3 {
			files := filesOf(5, log, nil, nil)
			if pages > 0 {
				files["flg.5"] = boxIn(log).flags()
			}
			if pages > 1 {
				files["idx.5"], files["new"] = []byte("an index that is spoilt, and of some bytes"), []byte("what something has left behind")
			}
			for room := 0; room < 1200; room += 11 {
				d := diskOf(t, 1<<12, files)
				leave(t, d, room)
				what := fmt.Sprint(name, ", room for ", room)
				wantFused(t, what, d)
				wantMended(t, what, d, 5)
				if isWhole(d, 5) {
					mended++
				} else {
					full++
				}
			}
		}
	}
	if full < 1000 || mended < 1000 {
		t.Error("nearly all alike:", full, mended)
	}
}

// wantFused lets the power go ahead of, or behind, what there may be no room for.
func wantFused(t *testing.T, what string, d *disk.Disk) {
	t.Helper()
	m := mendingOf(d, 5)
	for at := range m.steps {
		got, should := d.Clone(), d.Clone()
		got.Fuse(at)
		should.Fuse(at)
		e := inTurn(should, m.steps)
		if e == api.ErrFull {
			should = got.Clone()
		}
		b, is := repair.Mend(got, 5)
		wantBox(t, what, b, is, api.Box{}, e)
		wantPicture(t, what, got, should)
	}
}

func isWhole(d *disk.Disk, n int) bool {
	_, e := store.Whole(d, n)
	return e == api.OK
}

func TestMendOfFullStays(t *testing.T) {
	is := boxIn(some())
	d := diskOf(t, 1<<16, filesOf(0, append(some(), 'x'), is.index(), is.flags()))
	leave(t, d, 50)
	before := d.Clone()
	d.Fuse(8)
	b, e := repair.Mend(d, 0)
	wantBox(t, "full", b, e, api.Box{}, api.ErrFull)
	wantPicture(t, "full", d, before)
	want(t, "room", d.Harm("full", nil), api.OK)
	b, e = repair.Mend(d, 0)
	wantBox(t, "the fuse is as it was", b, e, api.Box{}, api.ErrLost)
	d.Restart(nil)
	b, e = repair.Mend(d, 0)
	wantBox(t, "with room", withoutFlags(b), e, withoutFlags(is.Box), api.OK)
}

// R3

func TestMendIsNewMemory(t *testing.T) {
	is := boxIn(some())
	d := diskOf(t, 1<<16, filesOf(0, some(), nil, is.flags()))
	for range 3 {
		b, e := repair.Mend(d, 0)
		wantBox(t, "mended", b, e, is.Box, api.OK)
		for _, m := range b.Msgs {
			o := m.Octets[:cap(m.Octets)]
			for n := range o {
				o[n] = 'x'
			}
		}
		clear(b.Msgs[:cap(b.Msgs)])
	}
	wantPicture(t, "spoilt", d, diskOf(t, 1<<16, filesOf(0, some(), is.index(), is.flags())))
}

// The greatest disk

func TestMendOfGreat(t *testing.T) {
	began := time.Now()
	frames := [][]byte{boxFrame(1, "a")}
	for uid := uint32(1); uid <= 95; uid++ {
		frames = append(frames, messageFrame(1, "a", api.Msg{UID: uid, Flags: int(uid % 32), Octets: make([]byte, 20000)}))
	}
	log := slices.Concat(frames...)
	for what, log := range map[string][]byte{
		"mail":      log,
		"torn mail": append(log, 'x'),
		"unclean":   slices.Concat(log, frames[1]),
		"junk":      make([]byte, 1<<22-1000),
		"cubs":      bytes.Repeat([]byte("cub\x01"), 1<<20-500),
		"gone ones": bytes.Repeat(goneFrame(1, 5), 1<<22/53),
		"boxes":     bytes.Repeat(boxFrame(1, "a"), 1<<22/53),
	} {
		d := diskOf(t, 1<<22, filesOf(0, log, []byte("i"), []byte("f")))
		wantMended(t, what, d, 0)
		if !isWhole(d, 0) {
			t.Error(what)
		}
	}
	if time.Since(began) > time.Minute {
		t.Error("it took", time.Since(began))
	}
}

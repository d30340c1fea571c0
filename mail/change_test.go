package mail_test

import (
	"bytes"
	"math"
	"math/rand"
	"slices"
	"testing"

	"cubby/api"
	"cubby/mail"
)

// P12.2: the mailbox has to be right.

func TestOfWrongMailboxes(t *testing.T) {
	for what, b := range wrongs() {
		want(t, what, doAppend(b, api.Msg{}), no(api.ErrArg))
		want(t, what, doAppend(b, api.Msg{Octets: make([]byte, 20001)}), no(api.ErrArg))
		for _, uids := range [][]uint32{nil, {}, {2}, {2, 3, 7, 8, 19}, {77}} {
			want(t, what, doStore(b, uids, 1, 0), no(api.ErrArg))
			want(t, what, doStore(b, uids, 1, 9), no(api.ErrArg))
			want(t, what, doExpunge(b, uids, false), no(api.ErrArg))
			want(t, what, doExpunge(b, uids, true), no(api.ErrArg))
			want(t, what, doCopy(b, some(), uids), no(api.ErrArg))
			want(t, what, doCopy(some(), b, uids), no(api.ErrArg))
			want(t, what, doCopy(b, b, uids), no(api.ErrArg))
			// It is asked for ahead of how many there are, and of UIDs.
			want(t, what, doCopy(b, plenty(500), uids), no(api.ErrArg))
			want(t, what, doCopy(b, late(2, last), uids), no(api.ErrArg))
		}
	}
}

// P12.2: Append

func TestAppendByHand(t *testing.T) {
	b, e := mail.New("a", 4)
	if e != api.OK {
		t.Fatal(e)
	}
	for k := range uint32(5) {
		var uid uint32
		b, uid, e = mail.Append(b, api.Msg{UID: 99 - k, Date: int64(k), Flags: int(k), Octets: []byte{byte('a' + k)}})
		if e != api.OK || uid != k+1 || b.Next != k+2 || b.Name != "a" || b.Epoch != 4 || len(b.Msgs) != int(k)+1 {
			t.Fatal(k, told(b), uid, e)
		}
		for place, m := range b.Msgs {
			if m.UID != uint32(place)+1 || m.Date != int64(place) || m.Flags != place || string(m.Octets) != string(rune('a'+place)) {
				t.Error(k, told(b))
			}
		}
	}
}

func TestAppend(t *testing.T) {
	for what, b := range map[string]api.Box{"some": some(), "none": {Name: "a", Epoch: 1, Next: 1}, "none, later": {Name: "a", Epoch: 1, Next: 70}, "499": plenty(499), "500": plenty(500), "late": late(3, last-1), "at the end": late(3, last), "both": late(500, last)} {
		for _, uid := range []uint32{0, 1, 2, 20, last - 1, last} {
			wantAppend(t, what, b, api.Msg{UID: uid, Date: 5, Flags: 3, Octets: []byte("new")})
		}
		for _, date := range []int64{math.MinInt64, -1, 0, 1, lastTime, lastTime + 1, math.MaxInt64} {
			wantAppend(t, what, b, api.Msg{Date: date})
		}
		for _, flags := range []int{math.MinInt, -1, 0, 1, 2, 4, 8, 16, 31, 32, 33, 64, 255, 256, 1 << 32, math.MaxInt} {
			wantAppend(t, what, b, api.Msg{Flags: flags})
		}
		for _, size := range []int{0, 1, 19999, 20000, 20001, 65536, 1 << 20} {
			wantAppend(t, what, b, api.Msg{Octets: bytes.Repeat([]byte("o"), size)})
		}
	}
}

// What is told first, where more than one thing is wrong.
func TestAppendOrder(t *testing.T) {
	long, wrongTime, wrongFlags := make([]byte, 20001), int64(-1), 32
	for k, c := range []struct {
		b    api.Box
		m    api.Msg
		want api.Errno
	}{
		{api.Box{}, api.Msg{Date: wrongTime, Flags: wrongFlags, Octets: long}, api.ErrArg},
		{late(500, last), api.Msg{Date: wrongTime, Octets: long}, api.ErrArg},
		{late(500, last), api.Msg{Flags: wrongFlags, Octets: long}, api.ErrArg},
		{late(500, last), api.Msg{Octets: long}, api.ErrLong},
		{late(500, last), api.Msg{}, api.ErrMany},
		{late(499, last), api.Msg{Octets: long}, api.ErrLong},
		{late(499, last), api.Msg{}, api.ErrFull},
		{plenty(500), api.Msg{Date: wrongTime}, api.ErrArg},
		{plenty(500), api.Msg{Octets: long}, api.ErrLong},
		{late(500, last-1), api.Msg{}, api.ErrMany},
		{late(499, last-1), api.Msg{}, api.OK},
		{some(), api.Msg{Date: wrongTime, Octets: long}, api.ErrArg},
		{some(), api.Msg{Flags: -1, Octets: long}, api.ErrArg},
		{some(), api.Msg{Octets: long}, api.ErrLong},
		{api.Box{Name: "a", Epoch: 1, Next: last}, api.Msg{}, api.ErrFull},
	} {
		if _, _, e := mail.Append(c.b, c.m); e != c.want {
			t.Error(k, e, "want", c.want)
		}
		wantAppend(t, k, c.b, c.m)
	}
}

// Up to the last UID, and to the last message, and no further.
func TestAppendToTheEnd(t *testing.T) {
	b := late(2, last-3)
	for k := range uint32(5) {
		got := doAppend(b, api.Msg{})
		if k >= 3 {
			want(t, k, got, no(api.ErrFull))
			continue
		}
		if got.e != api.OK || got.uids[0] != last-3+k || got.b.Next != last-2+k {
			t.Fatal(k, got.told())
		}
		b = got.b
	}
	b = plenty(490)
	for k := range 15 {
		got := doAppend(b, api.Msg{})
		if k >= 10 {
			want(t, k, got, no(api.ErrMany))
			continue
		}
		if got.e != api.OK || got.uids[0] != uint32(491+k) || len(got.b.Msgs) != 491+k {
			t.Fatal(k, got.told())
		}
		b = got.b
	}
}

// P12.2: Store

// lists answers UIDs in all sorts: of messages that are in some's mailbox, and that aren't.
func lists() [][]uint32 {
	many := []uint32{}
	for k := range uint32(600) {
		many = append(many, 600-k)
	}
	return [][]uint32{nil, {}, {2}, {3}, {7}, {8}, {19}, {2, 3, 7, 8, 19}, {19, 8, 7, 3, 2}, {7, 7, 7}, {2, 19, 2}, {8, 77, 8}, {0}, {1}, {4}, {9}, {18}, {20}, {21},
		{last}, {0, 1, 4, 20, last}, {0, 2}, {last, 19}, {3, 4, 5, 6, 7}, {7, 0, 3, last, 7, 3, 0}, many}
}

func TestStoreByHand(t *testing.T) {
	flagsOf := func(b api.Box) []int {
		var l []int
		for _, m := range b.Msgs {
			l = append(l, m.Flags)
		}
		return l
	}
	for k, c := range []struct {
		uids       []uint32
		flags, how int
		want       []int
	}{
		{[]uint32{2}, 1, 0, []int{1, 0, 31, 23, 9}},
		{[]uint32{2}, 1, 1, []int{9, 0, 31, 23, 9}},
		{[]uint32{7}, 1, 2, []int{8, 0, 30, 23, 9}},
		{[]uint32{7, 8, 7}, 8 | 2, 2, []int{8, 0, 21, 21, 9}},
		{[]uint32{19, 3, 2}, 0, 0, []int{0, 0, 31, 23, 0}},
		{[]uint32{2, 3, 7, 8, 19}, 31, 1, []int{31, 31, 31, 31, 31}},
		{[]uint32{2, 3, 7, 8, 19}, 31, 2, []int{0, 0, 0, 0, 0}},
		{[]uint32{2, 3}, 5, 3, []int{8, 0, 31, 23, 9}},
		{[]uint32{2, 3}, 5, -1, []int{8, 0, 31, 23, 9}},
		{[]uint32{2, 3}, 32 | 5, 0, []int{5, 5, 31, 23, 9}},
		{[]uint32{2, 3}, -1, 1, []int{31, 31, 31, 23, 9}},
		{[]uint32{1, 4, 20, 0, last}, 31, 0, []int{8, 0, 31, 23, 9}},
		{nil, 31, 0, []int{8, 0, 31, 23, 9}},
	} {
		b, e := mail.Store(some(), c.uids, c.flags, c.how)
		if e != api.OK || !slices.Equal(flagsOf(b), c.want) {
			t.Error(k, told(b), e, "want", c.want)
		}
		// Nothing but the flags is another.
		for place, m := range some().Msgs {
			b.Msgs[place].Flags = m.Flags
		}
		if !mail.Same(b, some()) {
			t.Error(k, told(b))
		}
	}
}

func TestStore(t *testing.T) {
	for _, uids := range lists() {
		for _, how := range []int{math.MinInt, -2, -1, 0, 1, 2, 3, 4, 256, math.MaxInt} {
			for _, flags := range []int{math.MinInt, -32, -1, 0, 1, 2, 4, 8, 16, 31, 32, 33, 255, 1 << 40, math.MaxInt} {
				wantStore(t, []any{len(uids), how, flags}, some(), uids, flags, how)
			}
		}
	}
	for _, b := range []api.Box{{Name: "a", Epoch: 1, Next: 1}, {Name: "a", Epoch: 1, Next: last}, late(3, last), late(500, last), plenty(500)} {
		for how := range 4 {
			wantStore(t, how, b, []uint32{last - 1, 500, last - 2, 1, last, 0}, 21, how)
		}
	}
}

// P12.2: Expunge

func TestExpungeByHand(t *testing.T) {
	for k, c := range []struct {
		uids []uint32
		all  bool
		gone []uint32
		left []uint32
	}{
		{nil, false, nil, []uint32{2, 3, 7, 8, 19}},
		{nil, true, []uint32{2, 7, 19}, []uint32{3, 8}},
		{[]uint32{3}, true, []uint32{2, 7, 19}, []uint32{3, 8}},
		{[]uint32{2, 7}, true, []uint32{2, 7, 19}, []uint32{3, 8}},
		{[]uint32{2}, false, []uint32{2}, []uint32{3, 7, 8, 19}},
		{[]uint32{3, 8}, false, nil, []uint32{2, 3, 7, 8, 19}},
		{[]uint32{19, 2}, false, []uint32{2, 19}, []uint32{3, 7, 8}},
		{[]uint32{19, 7, 7, 8, 19, 19}, false, []uint32{7, 19}, []uint32{2, 3, 8}},
		{[]uint32{0, 1, 4, 20, last}, false, nil, []uint32{2, 3, 7, 8, 19}},
		{[]uint32{19, 8, 7, 3, 2}, false, []uint32{2, 7, 19}, []uint32{3, 8}},
	} {
		b, gone, e := mail.Expunge(some(), c.uids, c.all)
		var left []uint32
		for _, m := range b.Msgs {
			left = append(left, m.UID)
			if was := some().Msgs[mail.At(some(), m.UID)]; was.Date != m.Date || was.Flags != m.Flags || !bytes.Equal(was.Octets, m.Octets) {
				t.Error(k, told(b))
			}
		}
		if e != api.OK || !slices.Equal(gone, c.gone) || !slices.Equal(left, c.left) || b.Next != 20 || b.Epoch != 3 || b.Name != "lists/go" {
			t.Error(k, told(b), gone, e)
		}
	}
}

func TestExpunge(t *testing.T) {
	for _, uids := range lists() {
		for _, all := range []bool{false, true} {
			for what, b := range map[string]api.Box{"some": some(), "none": {Name: "a", Epoch: 1, Next: 9}, "500": plenty(500), "late": late(500, last)} {
				wantExpunge(t, []any{what, len(uids), all}, b, uids, all)
			}
		}
	}
	// Of the flags, \Deleted alone is asked for.
	for flags := range 32 {
		b := api.Box{Name: "a", Epoch: 1, Next: 2, Msgs: []api.Msg{{UID: 1, Flags: flags}}}
		for _, all := range []bool{false, true} {
			got := doExpunge(b, []uint32{1}, all)
			if is := flags&deleted != 0; is != (len(got.uids) == 1) || is != (len(got.b.Msgs) == 0) || got.b.Next != 2 {
				t.Error(flags, got.told())
			}
		}
	}
}

// Whoever is gone leaves room, but no UID.
func TestExpungeAndAppend(t *testing.T) {
	b, _ := mail.Store(plenty(500), []uint32{500, 499}, deleted, 1)
	b, gone, e := mail.Expunge(b, []uint32{499, 500}, false)
	if e != api.OK || len(gone) != 2 || b.Next != 501 {
		t.Fatal(gone, b.Next, e)
	}
	b, uid, e := mail.Append(b, api.Msg{})
	if e != api.OK || uid != 501 || len(b.Msgs) != 499 {
		t.Error(uid, len(b.Msgs), e)
	}
}

// P12.2: Copy

func TestCopyByHand(t *testing.T) {
	to := api.Box{Name: "b", Epoch: 9, Next: 5, Msgs: []api.Msg{{UID: 3, Date: 1, Flags: 1, Octets: []byte("was")}}}
	b, uids, e := mail.Copy(some(), to, []uint32{8, 19, 77, 2, 8, 8, 0})
	m := some().Msgs
	m[0].UID, m[3].UID, m[4].UID = 5, 6, 7
	if e != api.OK || !slices.Equal(uids, []uint32{5, 6, 7}) || !mail.Same(b, api.Box{Name: "b", Epoch: 9, Next: 8, Msgs: []api.Msg{to.Msgs[0], m[0], m[3], m[4]}}) {
		t.Error(told(b), uids, e)
	}
	// To the mailbox itself.
	b, uids, e = mail.Copy(some(), some(), []uint32{7, 3})
	m = some().Msgs
	m[1].UID, m[2].UID = 20, 21
	if e != api.OK || !slices.Equal(uids, []uint32{20, 21}) || !mail.Same(b, api.Box{Name: "lists/go", Epoch: 3, Next: 22, Msgs: append(some().Msgs, m[1], m[2])}) {
		t.Error(told(b), uids, e)
	}
}

func TestCopy(t *testing.T) {
	froms := map[string]api.Box{"some": some(), "none": {Name: "a", Epoch: 1, Next: 9}, "500": plenty(500), "late": late(3, last)}
	tos := map[string]api.Box{
		"some": some(), "none": {Name: "b", Epoch: 2, Next: 1}, "none, later": {Name: "b", Epoch: 2, Next: 1000},
		"495": plenty(495), "498": plenty(498), "499": plenty(499), "500": plenty(500),
		"5 UIDs": late(2, last-5), "3 UIDs": late(2, last-3), "a UID": late(2, last-1), "no UID": late(2, last), "both": late(499, last-1), "neither": late(500, last), "one and none": late(499, last),
	}
	for what, from := range froms {
		for where, to := range tos {
			for _, uids := range append(lists(), []uint32{last - 1, last - 2, last - 3}, []uint32{1, 500}) {
				wantCopy(t, []any{what, where, len(uids)}, from, to, uids)
			}
		}
	}
}

// Which error comes first, and where none comes, as nothing is to be done.
func TestCopyOrder(t *testing.T) {
	five := []uint32{2, 3, 7, 8, 19}
	for k, c := range []struct {
		to   api.Box
		uids []uint32
		want api.Errno
	}{
		{plenty(500), five[:1], api.ErrMany},
		{plenty(500), nil, api.OK},
		{plenty(500), []uint32{1, 4, 20}, api.OK},
		{plenty(495), five, api.OK},
		{plenty(496), five, api.ErrMany},
		{plenty(496), []uint32{2, 3, 7, 8, 8, 2}, api.OK},
		{late(1, last), five[:1], api.ErrFull},
		{late(1, last), nil, api.OK},
		{late(1, last), []uint32{0, last}, api.OK},
		{late(1, last-5), five, api.OK},
		{late(1, last-4), five, api.ErrFull},
		{late(1, last-4), five[:4], api.OK},
		{late(500, last), five, api.ErrMany},
		// The third one has no UID; the third one has no room; both.
		{late(497, last-2), five, api.ErrFull},
		{late(498, last-3), five, api.ErrMany},
		{late(498, last-2), five, api.ErrMany},
	} {
		if _, _, e := mail.Copy(some(), c.to, c.uids); e != c.want {
			t.Error(k, e, "want", c.want)
		}
		wantCopy(t, k, some(), c.to, c.uids)
	}
}

// The greatest mailbox there is, all of it.
func TestCopyOfAll(t *testing.T) {
	from := plenty(500)
	var uids []uint32
	for k := range from.Msgs {
		from.Msgs[k].Octets = bytes.Repeat([]byte{byte(k)}, 20000)
		uids = append(uids, from.Msgs[k].UID)
	}
	to, _ := mail.New("b", 1)
	to.Next = 1 << 31
	b, l, e := mail.Copy(from, to, uids)
	if e != api.OK || len(l) != 500 || b.Next != 1<<31+500 {
		t.Fatal(e, len(l), b.Next)
	}
	for k, m := range b.Msgs {
		if m.UID != 1<<31+uint32(k) || l[k] != m.UID || m.Date != int64(k) || m.Flags != k%32 || !bytes.Equal(m.Octets, from.Msgs[k].Octets) {
			t.Fatal(k)
		}
	}
}

// Very many UIDs, of which few are there, take no time to speak of.
func TestManyUIDs(t *testing.T) {
	uids := make([]uint32, 1<<22)
	for k := range uids {
		uids[k] = uint32(k * 7 % 1000003)
	}
	if b, e := mail.Store(some(), uids, 4, 0); e != api.OK || b.Msgs[0].Flags != 4 || b.Msgs[4].Flags != 4 {
		t.Error(told(b), e)
	}
	if b, l, e := mail.Expunge(some(), uids, false); e != api.OK || !slices.Equal(l, []uint32{2, 7, 19}) {
		t.Error(told(b), l, e)
	}
	if b, l, e := mail.Copy(some(), some(), uids); e != api.OK || !slices.Equal(l, []uint32{20, 21, 22, 23, 24}) {
		t.Error(told(b), l, e)
	}
}

// All of P12.2, at random, one behind the other on the same mailboxes.
func TestAtRandom(t *testing.T) {
	r := random{rand.New(rand.NewSource(122))}
	fine, others := map[int]int{}, map[api.Errno]int{}
	for k := range 4000 {
		a, b := r.box(), r.box()
		for range 4 {
			call := r.Intn(4)
			got, told := r.call(call, a, b)
			want(t, k, got, told)
			if t.Failed() {
				return
			}
			if got.e != api.OK {
				others[got.e]++
				continue
			}
			fine[call]++
			a, b = b, got.b
		}
	}
	for call := range 4 {
		if fine[call] < 500 {
			t.Error("nearly never fine:", call, fine)
		}
	}
	for _, e := range []api.Errno{api.ErrArg, api.ErrLong, api.ErrMany, api.ErrFull} {
		if others[e] < 30 {
			t.Error("nearly never refused:", e, others)
		}
	}
}

// call answers what a call says, and what it should say.
func (r random) call(call int, a, b api.Box) (got, told answer) {
	uids := r.uids(a)
	switch call {
	case 0:
		m := api.Msg{UID: r.Uint32(), Date: r.Int63n(lastTime + 1), Flags: r.Intn(32), Octets: bytes.Repeat([]byte("m"), r.Intn(5))}
		if r.Intn(10) == 0 {
			r.harm(&m)
		}
		return doAppend(a, m), plainAppend(a, m)
	case 1:
		flags, how := r.Intn(70)-5, r.Intn(5)-1
		return doStore(a, uids, flags, how), plainStore(a, uids, flags, how)
	case 2:
		all := r.Intn(4) == 0
		return doExpunge(a, uids, all), plainExpunge(a, uids, all)
	}
	if r.Intn(5) == 0 {
		b = a
	}
	return doCopy(a, b, uids), plainCopy(a, b, uids)
}

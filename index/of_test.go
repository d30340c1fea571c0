package index_test

import (
	"bytes"
	"math/rand"
	"slices"
	"testing"

	"cubby/api"
	"cubby/body"
	"cubby/index"
	"cubby/log"
)

func box(epoch uint32, name string) body.Note { return body.Note{Kind: 1, Epoch: epoch, Name: name} }

// came is a message of the mailbox a.
func came(epoch, uid uint32, flags int) body.Note {
	return body.Note{Kind: 2, Epoch: epoch, Name: "a", Msg: api.Msg{UID: uid, Date: 5, Flags: flags, Octets: []byte("hello")}}
}

func gone(epoch, uid uint32) body.Note {
	return body.Note{Kind: 3, Epoch: epoch, Msg: api.Msg{UID: uid}}
}

// framed answers the records of notes, which must be formed.
func framed(t *testing.T, notes ...body.Note) []byte {
	t.Helper()
	var b []byte
	for _, n := range notes {
		f, e := body.Frame(n)
		if e != api.OK {
			t.Fatal(n, e)
		}
		b = append(b, f...)
	}
	return b
}

func wantOf(t *testing.T, what any, l log.Log, x index.Index, f index.Flags) {
	t.Helper()
	if gotX, gotF := index.Of(l); !sameIndex(gotX, x) || !sameFlags(gotF, f) {
		t.Errorf("%v: of %v there are %v, %v; want %v, %v", what, told(l), told(gotX), told(gotF), told(x), told(f))
	}
}

// P11.2, by hand

func TestOfByHand(t *testing.T) {
	// A box named a has 51 bytes; a message of a 44 + 4 + 4 + 6 + 1 + 3 + 5 = 67; one gone 52.
	for what, c := range map[string]struct {
		notes []body.Note
		x     index.Index
		f     index.Flags
	}{
		"a box": {[]body.Note{box(3, "lists/go")}, index.Index{Name: "lists/go", Epoch: 3, Next: 1, Upto: 58}, index.Flags{Epoch: 3}},
		"two messages": {[]body.Note{box(1, "a"), came(1, 1, 0), came(1, 9, 31)},
			index.Index{Name: "a", Epoch: 1, Next: 10, Upto: 185, L: []index.Entry{{1, 51}, {9, 118}}}, index.Flags{Epoch: 1, L: []index.Mark{{1, 0}, {9, 31}}}},
		"a message alone": {[]body.Note{came(7, 2, 4)},
			index.Index{Name: "a", Epoch: 7, Next: 3, Upto: 67, L: []index.Entry{{2, 0}}}, index.Flags{Epoch: 7, L: []index.Mark{{2, 4}}}},
		"one gone": {[]body.Note{box(1, "a"), came(1, 1, 1), came(1, 2, 2), gone(1, 1)},
			index.Index{Name: "a", Epoch: 1, Next: 3, Upto: 237, L: []index.Entry{{2, 118}}}, index.Flags{Epoch: 1, L: []index.Mark{{2, 2}}}},
		"all gone": {[]body.Note{box(1, "a"), came(1, 6, 1), gone(1, 6)}, index.Index{Name: "a", Epoch: 1, Next: 7, Upto: 170}, index.Flags{Epoch: 1}},
		"UIDs that fell": {[]body.Note{came(1, 6, 1), came(1, 5, 2), gone(1, 6)},
			index.Index{Name: "a", Epoch: 1, Next: 7, Upto: 186, L: []index.Entry{{5, 67}}}, index.Flags{Epoch: 1, L: []index.Mark{{5, 2}}}},
		"another name behind": {[]body.Note{came(1, 6, 1), box(1, "b")},
			index.Index{Name: "b", Epoch: 1, Next: 7, Upto: 118, L: []index.Entry{{6, 0}}}, index.Flags{Epoch: 1, L: []index.Mark{{6, 1}}}},
		"an epoch before": {[]body.Note{came(1, 6, 1), gone(1, 6), box(2, "a"), came(2, 1, 3)},
			index.Index{Name: "a", Epoch: 2, Next: 2, Upto: 237, L: []index.Entry{{1, 170}}}, index.Flags{Epoch: 2, L: []index.Mark{{1, 3}}}},
		"the last but one": {[]body.Note{came(last, last-1, 1)},
			index.Index{Name: "a", Epoch: last, Next: last, Upto: 67, L: []index.Entry{{last - 1, 0}}}, index.Flags{Epoch: last, L: []index.Mark{{last - 1, 1}}}},
		"the last gone": {[]body.Note{box(1, "a"), gone(1, last)}, index.Index{Name: "a", Epoch: 1, Next: last, Upto: 103}, index.Flags{Epoch: 1}},

		"nothing":             {},
		"one gone alone":      {notes: []body.Note{gone(1, 2)}},
		"UIDs that fall":      {notes: []body.Note{came(1, 2, 1), came(1, 1, 1)}},
		"a UID twice":         {notes: []body.Note{box(1, "a"), came(1, 2, 1), came(1, 2, 1)}},
		"the last UID":        {notes: []body.Note{came(1, last, 1)}},
		"live, epoch before":  {notes: []body.Note{came(1, 1, 1), box(2, "a")}},
		"a box behind others": {notes: []body.Note{came(1, 2, 1), came(1, 1, 1), box(1, "a")}},
	} {
		b := framed(t, c.notes...)
		wantOf(t, what, log.Read(b), c.x, c.f)
		// What is torn isn't known: Upto stays.
		wantOf(t, what, log.Read(append(b, "cub"...)), c.x, c.f)
		if c.x.Epoch != 0 {
			wantIndex(t, what, c.x)
			wantFlags(t, what, c.f)
		}
	}
}

// A log is taken at its word, also where nothing was read.
func TestOfWhatWasNotRead(t *testing.T) {
	live := []log.Live{{Msg: api.Msg{UID: 9, Date: 1, Flags: 99, Octets: []byte("x")}, Epoch: 4, At: -70}, {Msg: api.Msg{UID: 3, Flags: -1}, Epoch: 1, At: 5}}
	entries := []index.Entry{{9, -70}, {3, 5}}
	marks := []index.Mark{{9, 99}, {3, -1}}
	wantOf(t, "nothing", log.Log{}, index.Index{}, index.Flags{})
	wantOf(t, "clean alone", log.Log{Clean: true}, index.Index{}, index.Flags{})
	wantOf(t, "without a name", log.Log{Epoch: 1, Next: 9, Live: live, Torn: 5, Clean: true}, index.Index{}, index.Flags{})
	wantOf(t, "not clean", log.Log{Name: "a", Epoch: 1, Next: 9, Live: live, Torn: 5}, index.Index{}, index.Flags{})
	wantOf(t, "not clean, no messages", log.Log{Name: "a", Epoch: 1, Next: 9, Torn: 5}, index.Index{}, index.Flags{})
	wantOf(t, "clean", log.Log{Name: "a", Epoch: 8, Next: 7, Live: live, Torn: -5, Clean: true}, index.Index{Name: "a", Epoch: 8, Next: 7, Upto: -5, L: entries}, index.Flags{Epoch: 8, L: marks})
	wantOf(t, "clean, with a name alone", log.Log{Name: "a", Clean: true}, index.Index{Name: "a"}, index.Flags{})
	for _, none := range [][]log.Live{nil, {}, make([]log.Live, 0, 5)} {
		wantOf(t, "no messages", log.Log{Name: "a", Epoch: 1, Next: 1, Live: none, Clean: true}, index.Index{Name: "a", Epoch: 1, Next: 1}, index.Flags{Epoch: 1})
	}
}

// More messages than an index may have are told by Of, but not put.
func TestOfMany(t *testing.T) {
	for _, n := range []int{500, 501, 3000} {
		b := api.Box{Name: "a", Epoch: 2, Next: 1}
		for k := range n {
			b.Msgs = append(b.Msgs, api.Msg{UID: b.Next, Flags: k % 32})
			b.Next += 2
		}
		w, _ := log.Write(b)
		x, f := index.Of(log.Read(w))
		if len(x.L) != n || len(f.L) != n || x.Upto != len(w) || x.Next != b.Next || f.L[n-1] != (index.Mark{UID: b.Next - 2, Flags: (n - 1) % 32}) {
			t.Error(n, len(x.L), len(f.L), x.Upto, x.Next)
		}
		wantIndex(t, n, x)
		wantFlags(t, n, f)
	}
}

// At random: what Of says leads back to the log's records.

func TestOfAtRandom(t *testing.T) {
	r := random{rand.New(rand.NewSource(21))}
	some, others := 0, 0
	for k := range 5000 {
		var notes []body.Note
		uid := uint32(0)
		for range r.Intn(12) {
			uid += uint32(r.pick(1, 1, 1, 1, 1, 2, 0))
			notes = append(notes, []body.Note{came(2, max(1, uid), r.Intn(32)), came(2, max(1, uid), r.Intn(32)), gone(2, uint32(1+r.Intn(9))), gone(1, 1), box(uint32(1+r.Intn(2)), "b")}[r.Intn(5)])
		}
		b := framed(t, notes...)
		torn := len(b)
		b = append(b, framed(t, came(9, 9, 9))[:r.Intn(67)]...)
		l := log.Read(b)
		x, f := index.Of(l)
		if !l.Clean || l.Name == "" {
			others++
			wantOf(t, k, l, index.Index{}, index.Flags{})
			continue
		}
		some++
		mailbox := log.Box(l)
		if x.Name != mailbox.Name || x.Epoch != mailbox.Epoch || x.Next != mailbox.Next || x.Upto != torn || f.Epoch != x.Epoch || len(x.L) != len(mailbox.Msgs) || len(f.L) != len(mailbox.Msgs) {
			t.Fatal(k, l, x, f)
		}
		for n, m := range mailbox.Msgs {
			one := log.Read(b[x.L[n].At:][:67])
			if x.L[n].UID != m.UID || f.L[n] != (index.Mark{UID: m.UID, Flags: m.Flags}) || len(one.Live) != 1 || one.Live[0].Msg.UID != m.UID || one.Live[0].Msg.Flags != m.Flags {
				t.Fatal(k, n, l, x, f, one)
			}
		}
		wantIndex(t, k, x)
		wantFlags(t, k, f)
	}
	if some < 1000 || others < 1000 {
		t.Error("nearly nothing of a kind:", some, others)
	}
}

// R3

func TestMemoryOfLogs(t *testing.T) {
	octets, whole := roomy([]byte("hello"))
	before := bytes.Clone(whole)
	live := []log.Live{{Msg: api.Msg{UID: 4, Flags: 1, Octets: octets}, Epoch: 1, At: 5}, {Msg: api.Msg{UID: 6, Octets: octets}, Epoch: 1, At: 9}}
	live = withRoom(live, log.Live{Epoch: 77})
	l := log.Log{Name: "a", Epoch: 1, Next: 9, Live: live, Torn: 99, Clean: true}
	x, f := index.Of(l)
	y, g := index.Of(l)
	if l.Name != "a" || len(l.Live) != 2 || live[0].Msg.UID != 4 || live[0].At != 5 || live[1].Msg.UID != 6 || live[:3][2].Epoch != 77 || !bytes.Equal(whole, before) {
		t.Error("the log, or spare room of it, was changed")
	}
	x.L[0], f.L[0] = index.Entry{}, index.Mark{}
	live[0], live[1] = log.Live{}, log.Live{}
	if !slices.Equal(y.L, []index.Entry{{4, 5}, {6, 9}}) || !slices.Equal(g.L, []index.Mark{{4, 1}, {6, 0}}) {
		t.Error("an answer shares memory")
	}
}

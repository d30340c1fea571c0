package log_test

import (
	"bytes"
	"math"
	"math/rand"
	"slices"
	"strings"
	"testing"

	"cubby/api"
	"cubby/body"
	"cubby/frame"
	"cubby/log"
)

const last = math.MaxUint32

const lastTime = 253402300799

func box(epoch uint32, name string) body.Note { return body.Note{Kind: 1, Epoch: epoch, Name: name} }

func message(epoch, uid uint32, name, octets string) body.Note {
	return body.Note{Kind: 2, Epoch: epoch, Name: name, Msg: api.Msg{UID: uid, Date: 5, Flags: 2, Octets: []byte(octets)}}
}

// came is a message of the mailbox a.
func came(epoch, uid uint32, octets string) body.Note { return message(epoch, uid, "a", octets) }

func gone(epoch, uid uint32) body.Note {
	return body.Note{Kind: 3, Epoch: epoch, Msg: api.Msg{UID: uid}}
}

// framed answers the records of notes, which must be formed.
func framed(t *testing.T, notes ...body.Note) []byte {
	t.Helper()
	var b []byte
	for _, n := range notes {
		f, e := body.Frame(n)
		if e != api.OK {
			t.Fatal(n, e)
		}
		b = append(b, f...)
	}
	return b
}

// record answers a record of any payload, a note's or not.
func record(t *testing.T, kind int, payload string) []byte {
	t.Helper()
	f, e := frame.Frame(kind, []byte(payload))
	if e != api.OK {
		t.Fatal(kind, e)
	}
	return f
}

// damaged answers a record with another byte at the end of its payload.
func damaged(f []byte) []byte {
	f = bytes.Clone(f)
	f[len(f)-1]++
	return f
}

func sameMsg(a, b api.Msg) bool {
	return a.UID == b.UID && a.Date == b.Date && a.Flags == b.Flags && bytes.Equal(a.Octets, b.Octets)
}

func sameLive(a, b log.Live) bool {
	return sameMsg(a.Msg, b.Msg) && a.Epoch == b.Epoch && a.At == b.At
}

func sameLog(a, b log.Log) bool {
	return a.Name == b.Name && a.Epoch == b.Epoch && a.Next == b.Next && slices.EqualFunc(a.Live, b.Live, sameLive) && a.Torn == b.Torn && a.Clean == b.Clean
}

func sameBox(a, b api.Box) bool {
	return a.Name == b.Name && a.Epoch == b.Epoch && a.Next == b.Next && slices.EqualFunc(a.Msgs, b.Msgs, sameMsg)
}

func wantLog(t *testing.T, what any, b []byte, want log.Log) {
	t.Helper()
	if l := log.Read(b); !sameLog(l, want) {
		t.Errorf("%v: read as %v, want %v", what, l, want)
	}
}

func wantBox(t *testing.T, what any, l log.Log, want api.Box) {
	t.Helper()
	if got := log.Box(l); !sameBox(got, want) {
		t.Errorf("%v: the mailbox is %v, want %v", what, got, want)
	}
}

// The chapter's words, told once more: each question goes through all notes anew.

// placed is a note, and where its record begins.
type placed struct {
	n  body.Note
	at int
}

func plainLog(notes []placed, torn int) log.Log {
	l := log.Log{Next: 1, Torn: torn, Clean: true}
	for _, p := range notes {
		if p.n.Name != "" {
			l.Name = p.n.Name
		}
		if p.n.Epoch > l.Epoch {
			l.Epoch = p.n.Epoch
		}
	}
	for k, p := range notes {
		if p.n.Epoch == l.Epoch && p.n.Msg.UID >= l.Next {
			l.Next = p.n.Msg.UID
			if l.Next != last {
				l.Next++
			}
		}
		isGone := func(q placed) bool { return q.n.Kind == 3 && q.n.Epoch == p.n.Epoch && q.n.Msg.UID == p.n.Msg.UID }
		if p.n.Kind == 2 && !slices.ContainsFunc(notes[k:], isGone) {
			l.Live = append(l.Live, log.Live{Msg: p.n.Msg, Epoch: p.n.Epoch, At: p.at})
		}
	}
	for k, v := range l.Live {
		if v.Epoch != l.Epoch || v.Msg.UID == last || k > 0 && l.Live[k-1].Msg.UID >= v.Msg.UID {
			l.Clean = false
		}
	}
	return l
}

func plainBox(l log.Log) api.Box {
	x := api.Box{Name: l.Name, Epoch: l.Epoch, Next: l.Next}
	for _, v := range l.Live {
		x.Msgs = append(x.Msgs, v.Msg)
	}
	if l.Clean {
		return x
	}
	if x.Epoch != last {
		x.Epoch++
	}
	x.Next = 1
	for k := range x.Msgs {
		x.Msgs[k].UID = x.Next
		x.Next++
	}
	return x
}

// plainWrite answers the notes that a log of a mailbox has, and whether it may be written.
func plainWrite(x api.Box) ([]body.Note, bool) {
	notes := []body.Note{box(x.Epoch, x.Name)}
	top := int64(0)
	for _, m := range x.Msgs {
		uid := int64(m.UID)
		if uid <= top || uid > int64(x.Next) || uid == int64(x.Next) && uid != last {
			return nil, false
		}
		top = uid
		notes = append(notes, body.Note{Kind: 2, Epoch: x.Epoch, Name: x.Name, Msg: m})
	}
	if int64(x.Next) > top+1 {
		notes = append(notes, gone(x.Epoch, x.Next-1))
	}
	for _, n := range notes {
		if !body.Formed(n) {
			return nil, false
		}
	}
	return notes, true
}

// Read and Box, by hand

func TestNoBytes(t *testing.T) {
	for _, none := range [][]byte{nil, {}, make([]byte, 0, 100)} {
		want := log.Log{Next: 1, Clean: true}
		wantLog(t, "no bytes", none, want)
		wantBox(t, "no bytes", log.Read(none), api.Box{Next: 1})
	}
}

// What notes say, one behind the other: the places of live messages are told as which note it is.
func TestNotesByHand(t *testing.T) {
	type live struct {
		note int
		uid  uint32
	}
	for what, c := range map[string]struct {
		notes       []body.Note
		name        string
		epoch, next uint32
		live        []live
		clean       bool
	}{
		"a box":                           {[]body.Note{box(1, "a")}, "a", 1, 1, nil, true},
		"a box of the last epoch":         {[]body.Note{box(last, "a")}, "a", last, 1, nil, true},
		"a message alone":                 {[]body.Note{came(3, 7, "x")}, "a", 3, 8, []live{{0, 7}}, true},
		"one gone alone":                  {[]body.Note{gone(3, 7)}, "", 3, 8, nil, true},
		"two messages":                    {[]body.Note{box(1, "a"), came(1, 1, "x"), came(1, 2, "y")}, "a", 1, 3, []live{{1, 1}, {2, 2}}, true},
		"with room between":               {[]body.Note{box(1, "a"), came(1, 3, "x"), came(1, 900, "y")}, "a", 1, 901, []live{{1, 3}, {2, 900}}, true},
		"the first gone":                  {[]body.Note{box(1, "a"), came(1, 1, "x"), came(1, 2, "y"), gone(1, 1)}, "a", 1, 3, []live{{2, 2}}, true},
		"the last gone":                   {[]body.Note{box(1, "a"), came(1, 1, "x"), came(1, 2, "y"), gone(1, 2)}, "a", 1, 3, []live{{1, 1}}, true},
		"all gone":                        {[]body.Note{came(1, 1, "x"), came(1, 2, "y"), gone(1, 2), gone(1, 1)}, "a", 1, 3, nil, true},
		"gone twice":                      {[]body.Note{came(1, 1, "x"), gone(1, 1), gone(1, 1)}, "a", 1, 2, nil, true},
		"gone ahead of it":                {[]body.Note{gone(1, 1), came(1, 1, "x")}, "a", 1, 2, []live{{1, 1}}, true},
		"gone between":                    {[]body.Note{came(1, 1, "x"), gone(1, 1), came(1, 1, "y")}, "a", 1, 2, []live{{2, 1}}, true},
		"gone ahead and behind":           {[]body.Note{gone(1, 1), came(1, 1, "x"), gone(1, 1)}, "a", 1, 2, nil, true},
		"both of one UID gone":            {[]body.Note{came(1, 1, "x"), came(1, 1, "y"), gone(1, 1)}, "a", 1, 2, nil, true},
		"gone, of another UID":            {[]body.Note{came(1, 1, "x"), gone(1, 2)}, "a", 1, 3, []live{{0, 1}}, true},
		"gone, of a lower UID":            {[]body.Note{came(1, 3, "x"), gone(1, 2)}, "a", 1, 4, []live{{0, 3}}, true},
		"gone, of an epoch ahead":         {[]body.Note{came(2, 1, "x"), gone(1, 1)}, "a", 2, 2, []live{{0, 1}}, true},
		"gone, of an epoch behind":        {[]body.Note{came(1, 1, "x"), gone(2, 1)}, "a", 2, 2, []live{{0, 1}}, false},
		"UID and epoch turned round":      {[]body.Note{came(2, 1, "x"), gone(1, 2)}, "a", 2, 2, []live{{0, 1}}, true},
		"an epoch before, all gone":       {[]body.Note{came(1, 9, "x"), gone(1, 9), box(2, "a")}, "a", 2, 1, nil, true},
		"an epoch before, gone late":      {[]body.Note{came(1, 9, "x"), box(2, "a"), came(2, 1, "y"), gone(1, 9)}, "a", 2, 2, []live{{2, 1}}, true},
		"an epoch before, live":           {[]body.Note{came(1, 9, "x"), box(2, "a"), came(2, 1, "y")}, "a", 2, 2, []live{{0, 9}, {2, 1}}, false},
		"an epoch before, rising":         {[]body.Note{came(1, 1, "x"), came(2, 2, "y")}, "a", 2, 3, []live{{0, 1}, {1, 2}}, false},
		"a lower epoch behind":            {[]body.Note{box(2, "a"), came(2, 1, "x"), came(1, 5, "y")}, "a", 2, 2, []live{{1, 1}, {2, 5}}, false},
		"a lower box behind":              {[]body.Note{box(2, "a"), came(2, 1, "x"), box(1, "b")}, "b", 2, 2, []live{{1, 1}}, true},
		"the same UID twice":              {[]body.Note{came(1, 1, "x"), came(1, 1, "y")}, "a", 1, 2, []live{{0, 1}, {1, 1}}, false},
		"UIDs that fall":                  {[]body.Note{came(1, 3, "x"), came(1, 2, "y")}, "a", 1, 4, []live{{0, 3}, {1, 2}}, false},
		"UIDs that fell":                  {[]body.Note{came(1, 3, "x"), came(1, 2, "y"), gone(1, 3)}, "a", 1, 4, []live{{1, 2}}, true},
		"the last but one":                {[]body.Note{came(1, last-1, "x")}, "a", 1, last, []live{{0, last - 1}}, true},
		"the last":                        {[]body.Note{came(1, last, "x")}, "a", 1, last, []live{{0, last}}, false},
		"both":                            {[]body.Note{came(1, last-1, "x"), came(1, last, "y")}, "a", 1, last, []live{{0, last - 1}, {1, last}}, false},
		"the last gone, behind":           {[]body.Note{came(1, last, "x"), gone(1, last)}, "a", 1, last, nil, true},
		"the last but one gone":           {[]body.Note{came(1, 1, "x"), gone(1, last-1)}, "a", 1, last, []live{{0, 1}}, true},
		"the last but two gone":           {[]body.Note{came(1, 1, "x"), gone(1, last-2)}, "a", 1, last - 1, []live{{0, 1}}, true},
		"the last UID, an epoch before":   {[]body.Note{gone(1, last), came(2, 1, "y")}, "a", 2, 2, []live{{1, 1}}, true},
		"the last epoch":                  {[]body.Note{came(last, 1, "x"), came(last-1, 2, "y")}, "a", last, 2, []live{{0, 1}, {1, 2}}, false},
		"the epoch of one gone":           {[]body.Note{box(1, "a"), gone(9, 3)}, "a", 9, 4, nil, true},
		"the name of a message":           {[]body.Note{box(1, "a"), message(1, 1, "b", "x")}, "b", 1, 2, []live{{1, 1}}, true},
		"the name of a message gone":      {[]body.Note{box(1, "a"), message(1, 1, "b", "x"), gone(1, 1)}, "b", 1, 2, nil, true},
		"the name of a box behind":        {[]body.Note{message(1, 1, "b", "x"), box(1, "lists/go")}, "lists/go", 1, 2, []live{{0, 1}}, true},
		"a name ahead of one gone":        {[]body.Note{gone(1, 1), box(1, "INBOX"), gone(1, 2)}, "INBOX", 1, 3, nil, true},
		"the name of an epoch before":     {[]body.Note{box(2, "a"), box(1, "b")}, "b", 2, 1, nil, true},
		"messages of several names":       {[]body.Note{message(1, 1, "b", "x"), message(1, 2, "c", "y"), message(1, 3, "a", "z")}, "a", 1, 4, []live{{0, 1}, {1, 2}, {2, 3}}, true},
		"a box alone, of a greater epoch": {[]body.Note{came(1, 4, "x"), gone(1, 4), box(3, "a"), gone(2, 8)}, "a", 3, 1, nil, true},
	} {
		b := framed(t, c.notes...)
		want := log.Log{Name: c.name, Epoch: c.epoch, Next: c.next, Torn: len(b), Clean: c.clean}
		after := api.Box{Name: c.name, Epoch: c.epoch, Next: c.next}
		if !c.clean {
			after.Next = uint32(len(c.live)) + 1
			if c.epoch != last {
				after.Epoch++
			}
		}
		for k, v := range c.live {
			m := c.notes[v.note].Msg
			if m.UID != v.uid {
				t.Fatal(what)
			}
			want.Live = append(want.Live, log.Live{Msg: m, Epoch: c.notes[v.note].Epoch, At: len(framed(t, c.notes[:v.note]...))})
			if !c.clean {
				m.UID = uint32(k) + 1
			}
			after.Msgs = append(after.Msgs, m)
		}
		wantLog(t, what, b, want)
		wantBox(t, what, log.Read(b), after)
	}
}

// A message is told whole.
func TestMessagesAreToldWhole(t *testing.T) {
	m := api.Msg{UID: 258, Date: lastTime, Flags: 31, Octets: bytes.Repeat([]byte{0, 255, 'c', 'u', 'b', 1}, 3000)}
	n := body.Note{Kind: 2, Epoch: 7, Name: "INBOX", Msg: m}
	b := framed(t, box(7, "INBOX"), n, gone(7, 300))
	at := len(framed(t, box(7, "INBOX")))
	wantLog(t, "a great message", b, log.Log{Name: "INBOX", Epoch: 7, Next: 301, Live: []log.Live{{Msg: m, Epoch: 7, At: at}}, Torn: len(b), Clean: true})
	wantBox(t, "a great message", log.Read(b), api.Box{Name: "INBOX", Epoch: 7, Next: 301, Msgs: []api.Msg{m}})
}

// Records that aren't notes don't count, whatever they look like.
func TestRecordsThatAreNoNotes(t *testing.T) {
	ahead := framed(t, box(2, "a"), came(2, 1, "x"), came(2, 2, "y"))
	behind := framed(t, gone(2, 1))
	bare := log.Read(append(bytes.Clone(ahead), behind...))
	if len(bare.Live) != 1 || bare.Next != 3 || bare.Epoch != 2 || bare.Name != "a" {
		t.Fatal(bare)
	}
	for what, r := range map[string][]byte{
		"a box without an epoch":        record(t, 1, "\x00\x00\x00\x00\x00\x01b"),
		"a box without a name":          record(t, 1, "\x00\x00\x00\x09\x00\x00"),
		"a box named inbox":             record(t, 1, "\x00\x00\x00\x09\x00\x05inbox"),
		"a box and a byte":              record(t, 1, "\x00\x00\x00\x09\x00\x01bb"),
		"a box, no payload":             record(t, 1, ""),
		"a message without an epoch":    record(t, 2, "\x00\x00\x00\x00\x00\x00\x00\x09\x00\x00\x00\x00\x00\x00\x00\x00\x01bhi"),
		"a message without a UID":       record(t, 2, "\x00\x00\x00\x09\x00\x00\x00\x00\x00\x00\x00\x00\x00\x00\x00\x00\x01bhi"),
		"a message with other flags":    record(t, 2, "\x00\x00\x00\x09\x00\x00\x00\x09\x00\x00\x00\x00\x00\x00\x20\x00\x01bhi"),
		"a message of no time":          record(t, 2, "\x00\x00\x00\x09\x00\x00\x00\x09\xff\xff\xff\xff\xff\xff\x00\x00\x01bhi"),
		"a message with a wrong name":   record(t, 2, "\x00\x00\x00\x09\x00\x00\x00\x09\x00\x00\x00\x00\x00\x00\x00\x00\x01*hi"),
		"a message with too many bytes": record(t, 2, "\x00\x00\x00\x09\x00\x00\x00\x09\x00\x00\x00\x00\x00\x00\x00\x00\x01b"+strings.Repeat("x", 20001)),
		"a message, no payload":         record(t, 2, ""),
		"one gone without an epoch":     record(t, 3, "\x00\x00\x00\x00\x00\x00\x00\x02"),
		"one gone without a UID":        record(t, 3, "\x00\x00\x00\x09\x00\x00\x00\x00"),
		"one gone and a byte":           record(t, 3, "\x00\x00\x00\x02\x00\x00\x00\x02\x00"),
		"one gone, cut off":             record(t, 3, "\x00\x00\x00\x02\x00\x00\x02"),
		"a box, taken for one gone":     record(t, 3, "\x00\x00\x00\x02\x00\x01b"),
		"a damaged box":                 damaged(framed(t, box(9, "b"))),
		"a damaged message":             damaged(framed(t, message(9, 9, "b", "z"))),
		"a damaged one gone":            damaged(framed(t, gone(2, 2))),
		"bytes":                         []byte("cub, and what isn't a head"),
		"the beginning of a head":       framed(t, gone(9, 9))[:11],
		"a head, one byte turned":       append([]byte("cuB"), framed(t, gone(9, 9))[3:]...),
	} {
		want := bare
		want.Torn = len(ahead) + len(r) + len(behind)
		wantLog(t, what, slices.Concat(ahead, r, behind), want)
		// Ahead of all that counts they move the places alone.
		first := bare
		first.Torn = want.Torn
		first.Live = slices.Clone(bare.Live)
		first.Live[0].At += len(r)
		wantLog(t, what+", ahead", slices.Concat(r, ahead, behind), first)
	}
}

func TestNoNotesAtAll(t *testing.T) {
	for what, r := range map[string][]byte{
		"one that isn't a note": record(t, 1, "hello"),
		"several":               slices.Concat(record(t, 1, ""), record(t, 2, "x"), record(t, 3, "y")),
		"a damaged one":         damaged(framed(t, box(1, "a"))),
	} {
		wantLog(t, what, r, log.Log{Next: 1, Torn: len(r), Clean: true})
	}
	for what, r := range map[string][]byte{"a byte": {0}, "bytes": bytes.Repeat([]byte{255}, 1<<20), "a text": []byte("cub cub cub"), "half a head": framed(t, box(1, "a"))[:43]} {
		wantLog(t, what, r, log.Log{Next: 1, Clean: true})
	}
}

// Cut off at any place, a log says what stands whole ahead of that, and is torn where layer 4 says.
func TestCutOff(t *testing.T) {
	notes := []body.Note{box(1, "a"), came(1, 1, "x"), came(1, 2, "yy"), gone(1, 1), box(2, "b"), came(2, 1, "")}
	var whole []placed
	var b []byte
	for _, n := range notes {
		f := framed(t, n)
		for cut := range f {
			wantLog(t, cut, append(bytes.Clone(b), f[:cut]...), plainLog(whole, len(b)))
		}
		whole = append(whole, placed{n, len(b)})
		b = append(b, f...)
	}
	wantLog(t, "all", b, plainLog(whole, len(b)))
	end := len(b)
	wantLog(t, "a byte behind", append(b, 'c'), plainLog(whole, end))
}

// Box, of logs that nothing was read from

func TestBoxByHand(t *testing.T) {
	live := []log.Live{{Msg: api.Msg{UID: 9, Date: 1, Flags: 1, Octets: []byte("x")}, Epoch: 4, At: 70}, {Msg: api.Msg{UID: 3, Octets: []byte("y")}, Epoch: 1, At: -1}}
	old := []api.Msg{live[0].Msg, live[1].Msg}
	anew := []api.Msg{{UID: 1, Date: 1, Flags: 1, Octets: []byte("x")}, {UID: 2, Octets: []byte("y")}}
	for what, c := range map[string]struct {
		l    log.Log
		want api.Box
	}{
		"nothing":                    {log.Log{}, api.Box{Epoch: 1, Next: 1}},
		"nothing, but clean":         {log.Log{Clean: true}, api.Box{}},
		"clean":                      {log.Log{Name: "a", Epoch: 4, Next: 77, Live: live, Torn: 5, Clean: true}, api.Box{Name: "a", Epoch: 4, Next: 77, Msgs: old}},
		"not clean":                  {log.Log{Name: "a", Epoch: 4, Next: 77, Live: live, Torn: 5}, api.Box{Name: "a", Epoch: 5, Next: 3, Msgs: anew}},
		"not clean, without any":     {log.Log{Name: "a", Epoch: 4, Next: 77}, api.Box{Name: "a", Epoch: 5, Next: 1}},
		"clean, the last of all":     {log.Log{Name: "a", Epoch: last, Next: last, Live: live, Clean: true}, api.Box{Name: "a", Epoch: last, Next: last, Msgs: old}},
		"not clean, the last epoch":  {log.Log{Name: "a", Epoch: last, Next: last, Live: live}, api.Box{Name: "a", Epoch: last, Next: 3, Msgs: anew}},
		"not clean, the one ahead":   {log.Log{Name: "a", Epoch: last - 1, Next: 4, Live: live[:1]}, api.Box{Name: "a", Epoch: last, Next: 2, Msgs: anew[:1]}},
		"not clean, without a name":  {log.Log{Epoch: 1, Next: 1, Live: live[:1]}, api.Box{Epoch: 2, Next: 2, Msgs: anew[:1]}},
		"not clean, without numbers": {log.Log{Name: "inbox", Live: live[:1]}, api.Box{Name: "inbox", Epoch: 1, Next: 2, Msgs: anew[:1]}},
	} {
		wantBox(t, what, c.l, c.want)
	}
}

// Write

// wantWritten fails, if what is written of a mailbox isn't these notes' records.
func wantWritten(t *testing.T, what any, x api.Box, notes ...body.Note) {
	t.Helper()
	if b, e := log.Write(x); !bytes.Equal(b, framed(t, notes...)) || e != api.OK {
		t.Errorf("%v: %v is written as %.300x, %d", what, x, b, e)
	}
}

func wantErrArg(t *testing.T, what any, x api.Box) {
	t.Helper()
	if b, e := log.Write(x); len(b) != 0 || e != api.ErrArg {
		t.Errorf("%v: %.300x, %d, want ErrArg", what, b, e)
	}
}

// msgs answers messages of these UIDs, each with an octet or none.
func msgs(uids ...uint32) []api.Msg {
	var l []api.Msg
	for k, uid := range uids {
		l = append(l, api.Msg{UID: uid, Date: int64(k), Flags: k % 32, Octets: []byte("xyz")[:k%4]})
	}
	return l
}

func TestWriteByHand(t *testing.T) {
	for what, c := range map[string]struct {
		next  uint32
		uids  []uint32
		ahead uint32
	}{
		"none":                                  {1, nil, 0},
		"none, and no next one":                 {0, nil, 0},
		"none, the first gone":                  {2, nil, 1},
		"none, many gone":                       {900, nil, 899},
		"none, all but two gone":                {last - 1, nil, last - 2},
		"none, all but one gone":                {last, nil, last - 1},
		"one":                                   {2, []uint32{1}, 0},
		"one, and one gone":                     {3, []uint32{1}, 2},
		"one, and many gone":                    {3000000000, []uint32{1}, 2999999999},
		"one, with room ahead":                  {8, []uint32{7}, 0},
		"one, with room on both sides":          {9, []uint32{7}, 8},
		"some":                                  {6, []uint32{1, 2, 5}, 0},
		"some, and one gone":                    {7, []uint32{1, 2, 5}, 6},
		"some, and more gone":                   {1 << 31, []uint32{1, 2, 5}, 1<<31 - 1},
		"up to the last but two":                {last - 1, []uint32{1, last - 2}, 0},
		"the last but two, but one gone":        {last, []uint32{1, last - 2}, last - 1},
		"up to the last but one":                {last, []uint32{1, last - 1}, 0},
		"the last itself":                       {last, []uint32{last}, 0},
		"up to the last":                        {last, []uint32{1, last - 1, last}, 0},
		"nearly none ahead of the last":         {last, []uint32{1, last}, 0},
		"in the midst, where signs might turn":  {1<<31 + 2, []uint32{1<<31 - 1, 1 << 31}, 1<<31 + 1},
		"in the midst, without one gone behind": {1<<31 + 1, []uint32{1<<31 - 1, 1 << 31}, 0},
	} {
		for _, epoch := range []uint32{1, 3, last} {
			x := api.Box{Name: "lists/go", Epoch: epoch, Next: c.next, Msgs: msgs(c.uids...)}
			notes := []body.Note{box(epoch, "lists/go")}
			for _, m := range x.Msgs {
				notes = append(notes, body.Note{Kind: 2, Epoch: epoch, Name: "lists/go", Msg: m})
			}
			if c.ahead != 0 {
				notes = append(notes, gone(epoch, c.ahead))
			}
			wantWritten(t, what, x, notes...)
		}
	}
}

func TestWriteWrongUIDs(t *testing.T) {
	for what, c := range map[string]struct {
		next uint32
		uids []uint32
	}{
		"0":                                    {5, []uint32{0}},
		"0, then 1":                            {5, []uint32{0, 1}},
		"0, next 0":                            {0, []uint32{0}},
		"1, next 0":                            {0, []uint32{1}},
		"1, next 1":                            {1, []uint32{1}},
		"the next one":                         {5, []uint32{1, 5}},
		"above the next one":                   {5, []uint32{1, 6}},
		"far above the next one":               {5, []uint32{1, last}},
		"the first above the next one":         {5, []uint32{6, 7}},
		"twice":                                {5, []uint32{2, 2}},
		"falling":                              {5, []uint32{2, 1}},
		"falling at the end":                   {5, []uint32{1, 2, 3, 2}},
		"falling at the beginning":             {5, []uint32{2, 1, 3, 4}},
		"falling to 0":                         {5, []uint32{1, 0, 2}},
		"the last but one, next the same":      {last - 1, []uint32{last - 1}},
		"the last, next the one ahead":         {last - 1, []uint32{last}},
		"the last twice":                       {last, []uint32{last, last}},
		"behind the last":                      {last, []uint32{last, 1}},
		"the one ahead of the last, behind it": {last, []uint32{last, last - 1}},
	} {
		x := api.Box{Name: "a", Epoch: 1, Next: c.next, Msgs: msgs(c.uids...)}
		wantErrArg(t, what, x)
	}
}

// A box or a message that isn't a formed note isn't written, and nothing with it.
func TestWriteWhatIsNotFormed(t *testing.T) {
	right := func() api.Box { return api.Box{Name: "a", Epoch: 1, Next: 9, Msgs: msgs(1, 3, 4)} }
	if _, e := log.Write(right()); e != api.OK {
		t.Fatal(e)
	}
	for what, turn := range map[string]func(x *api.Box){
		"no epoch":         func(x *api.Box) { x.Epoch = 0 },
		"no name":          func(x *api.Box) { x.Name = "" },
		"another name":     func(x *api.Box) { x.Name = "inbox" },
		"not a name":       func(x *api.Box) { x.Name = "a//b" },
		"a long name":      func(x *api.Box) { x.Name = strings.Repeat("a", 61) },
		"a huge name":      func(x *api.Box) { x.Name = strings.Repeat("a", 65536) },
		"other flags":      func(x *api.Box) { x.Msgs[0].Flags = 32 },
		"flags below 0":    func(x *api.Box) { x.Msgs[1].Flags = -1 },
		"a time below 0":   func(x *api.Box) { x.Msgs[2].Date = -1 },
		"a time too late":  func(x *api.Box) { x.Msgs[2].Date = lastTime + 1 },
		"an octet more":    func(x *api.Box) { x.Msgs[2].Octets = make([]byte, 20001) },
		"too many octets":  func(x *api.Box) { x.Msgs[1].Octets = make([]byte, 1<<20) },
		"a UID of 0":       func(x *api.Box) { x.Msgs[0].UID = 0 },
		"the first of all": func(x *api.Box) { *x = api.Box{Msgs: msgs(0)} },
	} {
		x := right()
		turn(&x)
		wantErrArg(t, what, x)
	}
	for _, next := range []uint32{0, 1, 2, last} {
		wantErrArg(t, "no epoch, no messages", api.Box{Name: "a", Next: next})
		wantErrArg(t, "no name, no messages", api.Box{Epoch: 1, Next: next})
		wantErrArg(t, "nothing", api.Box{Next: next})
	}
	most := right()
	most.Name = strings.Repeat("a", 60)
	most.Msgs = []api.Msg{{UID: 3, Date: lastTime, Flags: 31, Octets: bytes.Repeat([]byte{7}, 20000)}}
	wantWritten(t, "the most", most, box(1, most.Name), body.Note{Kind: 2, Epoch: 1, Name: most.Name, Msg: most.Msgs[0]}, gone(1, 8))
}

// R4: no messages, and no octets, are the same, nil or empty.
func TestWriteNone(t *testing.T) {
	for _, none := range [][]api.Msg{nil, {}, make([]api.Msg, 0, 5)} {
		wantWritten(t, "no messages", api.Box{Name: "a", Epoch: 1, Next: 1, Msgs: none}, box(1, "a"))
	}
	for _, none := range [][]byte{nil, {}, make([]byte, 0, 5)} {
		wantWritten(t, "no octets", api.Box{Name: "a", Epoch: 1, Next: 2, Msgs: []api.Msg{{UID: 1, Octets: none}}}, box(1, "a"), body.Note{Kind: 2, Epoch: 1, Name: "a", Msg: api.Msg{UID: 1}})
	}
}

// P10.2

func wantReadAgain(t *testing.T, what any, x api.Box) {
	t.Helper()
	b, e := log.Write(x)
	l := log.Read(b)
	if e != api.OK || !l.Clean || l.Torn != len(b) || len(l.Live) != len(x.Msgs) || !sameBox(log.Box(l), x) {
		t.Errorf("%v: %v is read again as %v, %v, %d", what, x, l, log.Box(l), e)
	}
	recs, _ := frame.Scan(b)
	for k, v := range l.Live {
		if v.Epoch != x.Epoch || k+1 >= len(recs) || recs[k+1].At != v.At {
			t.Errorf("%v: message %d is of epoch %d, at %d", what, k, v.Epoch, v.At)
		}
	}
}

func TestReadAgain(t *testing.T) {
	for _, next := range []uint32{1, 2, 3, 300, 1<<31 - 1, 1 << 31, 1<<31 + 1, last - 3, last - 2, last - 1} {
		for _, epoch := range []uint32{1, 2, last} {
			wantReadAgain(t, next, api.Box{Name: "INBOX", Epoch: epoch, Next: next})
			if next > 1 {
				wantReadAgain(t, next, api.Box{Name: "a", Epoch: epoch, Next: next, Msgs: msgs(1)})
				wantReadAgain(t, next, api.Box{Name: "a/b", Epoch: epoch, Next: next, Msgs: msgs(next - 1)})
			}
			if next > 9 {
				wantReadAgain(t, next, api.Box{Name: "a", Epoch: epoch, Next: next, Msgs: msgs(1, 2, 4, next-3, next-2)})
			}
		}
	}
}

// Of the last Next all is read again, if no message has the last UID.
func TestReadAgainOfTheLast(t *testing.T) {
	wantReadAgain(t, "none", api.Box{Name: "a", Epoch: 1, Next: last})
	wantReadAgain(t, "some", api.Box{Name: "a", Epoch: 1, Next: last, Msgs: msgs(1, 5)})
	wantReadAgain(t, "the last but one", api.Box{Name: "a", Epoch: 1, Next: last, Msgs: msgs(1, last-1)})
	b, e := log.Write(api.Box{Name: "a", Epoch: 1, Next: last, Msgs: msgs(1, last)})
	l := log.Read(b)
	if e != api.OK || l.Clean || l.Next != last || len(l.Live) != 2 {
		t.Error(l, e)
	}
	wantBox(t, "the last", l, api.Box{Name: "a", Epoch: 2, Next: 3, Msgs: []api.Msg{msgs(1)[0], {UID: 2, Date: 1, Flags: 1, Octets: []byte("x")}}})
}

// More messages than a mailbox may have elsewhere are written and read, too.
func TestManyMessages(t *testing.T) {
	x := api.Box{Name: "a", Epoch: 5, Next: 1}
	var notes []byte
	for range 5000 {
		x.Msgs = append(x.Msgs, api.Msg{UID: x.Next, Octets: []byte("x")})
		notes = append(notes, framed(t, gone(5, x.Next))...)
		x.Next += 3
	}
	x.Next -= 2
	wantReadAgain(t, "many", x)
	b, _ := log.Write(x)
	b = append(b, notes...)
	wantLog(t, "many gone", b, log.Log{Name: "a", Epoch: 5, Next: x.Next, Torn: len(b), Clean: true})
}

// At random

type random struct{ *rand.Rand }

func (r random) number(l ...uint32) uint32 { return l[r.Intn(len(l))] }

// note answers a formed note; rising tells the UID that a message has then, if it isn't one of few.
func (r random) note(rising *uint32) body.Note {
	epoch, uid := r.number(2, 2, 2, 2, 2, 1, last), r.number(1, 2, 3, 4, 5, 6, last-1, last)
	if rising != nil {
		epoch = 2
		*rising += r.number(1, 1, 1, 2)
		uid = *rising
	}
	name := []string{"a", "INBOX", "lists/go"}[r.Intn(3)]
	switch r.Intn(6) {
	case 0:
		return box(epoch, name)
	case 1, 2:
		return gone(epoch, max(1, r.number(uid, uid, uid-1, 1, 2, 3)))
	}
	return body.Note{Kind: 2, Epoch: epoch, Name: name, Msg: api.Msg{UID: uid, Date: r.Int63n(lastTime), Flags: r.Intn(32), Octets: bytes.Repeat([]byte("c"), r.Intn(9))}}
}

// log answers bytes with notes, with others between, and with a torn rest; which notes there are, and where that rest begins.
func (r random) log(t *testing.T) ([]byte, []placed, int) {
	var b []byte
	var notes []placed
	var rising *uint32
	if r.Intn(2) == 0 {
		rising = new(uint32)
	}
	for range r.Intn(15) {
		n := r.note(rising)
		f := framed(t, n)
		switch r.Intn(12) {
		case 0:
			b = append(b, f[:r.Intn(12)]...)
		case 1:
			b = append(b, damaged(f)...)
		case 2:
			b = append(b, record(t, 1+r.Intn(3), "no note")...)
		}
		notes = append(notes, placed{n, len(b)})
		b = append(b, f...)
	}
	torn := len(b)
	rest := framed(t, r.note(nil))
	switch r.Intn(4) {
	case 0:
		b = append(b, rest[:r.Intn(len(rest))]...)
	case 1:
		b = append(b, bytes.Repeat([]byte("cub"), r.Intn(30))...)
	}
	return b, notes, torn
}

func TestReadAtRandom(t *testing.T) {
	r := random{rand.New(rand.NewSource(10))}
	clean, others, torn, some := 0, 0, 0, 0
	for k := range 20000 {
		b, notes, end := r.log(t)
		want := plainLog(notes, end)
		wantLog(t, k, b, want)
		wantBox(t, k, log.Read(b), plainBox(want))
		switch {
		case !want.Clean:
			others++
		case len(want.Live) > 1:
			clean++
		}
		if end < len(b) {
			torn++
		}
		if len(want.Live) > 0 && len(want.Live) < len(notes)/2 {
			some++
		}
		if t.Failed() {
			return
		}
	}
	if clean < 1000 || others < 1000 || torn < 1000 || some < 1000 {
		t.Error("nearly nothing of a kind:", clean, others, torn, some)
	}
}

func (r random) box() api.Box {
	x := api.Box{Name: []string{"a", "INBOX", "lists/go", "a", "a", "a", "inbox", ""}[r.Intn(8)], Epoch: r.number(0, 1, 1, 2, 2, 2, 2, 2, 3, last)}
	uid := r.number(0, 0, 0, 0, 0, 7, last-6)
	for range r.Intn(6) {
		uid += r.number(0, 1, 1, 1, 1, 1, 1, 1, 2, 3)
		m := api.Msg{UID: uid, Date: r.Int63n(lastTime), Flags: r.Intn(32), Octets: bytes.Repeat([]byte("c"), r.Intn(9))}
		if r.Intn(50) == 0 {
			m.Flags = 32
		}
		x.Msgs = append(x.Msgs, m)
	}
	x.Next = uid + r.number(0, 1, 1, 1, 1, 1, 2, 3, 100)
	if uid >= last-6 && r.Intn(2) == 0 {
		x.Next = last
	}
	return x
}

func TestWriteAtRandom(t *testing.T) {
	r := random{rand.New(rand.NewSource(11))}
	written, others, again := 0, 0, 0
	for k := range 20000 {
		x := r.box()
		notes, ok := plainWrite(x)
		if !ok {
			others++
			wantErrArg(t, k, x)
			continue
		}
		written++
		wantWritten(t, k, x, notes...)
		if 1 <= x.Next && x.Next <= last-1 {
			again++
			wantReadAgain(t, k, x)
		}
		if t.Failed() {
			return
		}
	}
	if written < 1000 || others < 1000 || again < 1000 || written == again {
		t.Error("nearly nothing of a kind:", written, others, again)
	}
}

// What is written of the mailbox of a log that isn't clean is clean, and of the same messages.
func TestMadeCleanAtRandom(t *testing.T) {
	r := random{rand.New(rand.NewSource(12))}
	made := 0
	for k := range 5000 {
		b, _, _ := r.log(t)
		l := log.Read(b)
		if l.Name == "" || l.Clean {
			continue
		}
		made++
		wantReadAgain(t, k, log.Box(l))
	}
	if made < 500 {
		t.Error("nearly none:", made)
	}
}

// R3

// roomy answers b with spare room behind it, and all of it, to be looked at later.
func roomy(b []byte) (part, whole []byte) {
	whole = append(bytes.Clone(b), bytes.Repeat([]byte{0xaa}, 100)...)
	return whole[:len(b)], whole
}

func scribble(b []byte) {
	b = b[:cap(b)]
	for n := range b {
		b[n] = 0x55
	}
}

func TestMemoryOfBytes(t *testing.T) {
	for _, notes := range [][]body.Note{{box(1, "a"), came(1, 1, "hello"), came(1, 2, "there")}, {came(1, 2, "hello"), came(1, 1, "there")}} {
		part, whole := roomy(framed(t, notes...))
		before := bytes.Clone(whole)
		first, second, third := log.Read(part), log.Read(part), log.Read(bytes.Clone(part))
		scribble(first.Live[0].Msg.Octets)
		if !bytes.Equal(whole, before) {
			t.Error("the bytes, or their spare room, were changed")
		}
		if string(first.Live[1].Msg.Octets) != "there" {
			t.Error("two messages share memory")
		}
		scribble(part)
		first.Live[0], first.Live[1] = log.Live{}, log.Live{}
		if !sameLog(second, third) {
			t.Error("an answer shares memory")
		}
	}
}

func TestMemoryOfLogs(t *testing.T) {
	for _, clean := range []bool{true, false} {
		part, whole := roomy([]byte("hello"))
		live := append(make([]log.Live, 0, 3), log.Live{Msg: api.Msg{UID: 4, Octets: part}, Epoch: 1, At: 5}, log.Live{Msg: api.Msg{UID: 6, Octets: part}, Epoch: 1, At: 9})
		l := log.Log{Name: "a", Epoch: 1, Next: 9, Live: live, Torn: 99, Clean: clean}
		before, octets := slices.Clone(live[:3]), bytes.Clone(whole)
		first, second := log.Box(l), log.Box(l)
		scribble(first.Msgs[0].Octets)
		if string(first.Msgs[1].Octets) != "hello" {
			t.Error("two messages share memory")
		}
		first.Msgs[0], first.Msgs[1] = api.Msg{}, api.Msg{}
		if !slices.EqualFunc(live[:3], before, sameLive) || !bytes.Equal(whole, octets) {
			t.Error("the log, or spare room of it, was changed")
		}
		scribble(part)
		live[0], live[1] = log.Live{}, log.Live{}
		for _, m := range second.Msgs {
			if string(m.Octets) != "hello" || m.UID == 0 {
				t.Error("a mailbox shares memory")
			}
		}
	}
}

func TestMemoryOfMailboxes(t *testing.T) {
	part, whole := roomy([]byte("hello"))
	list := append(make([]api.Msg, 0, 3), api.Msg{UID: 1, Octets: part}, api.Msg{UID: 2, Octets: part})
	before, octets := slices.Clone(list[:3]), bytes.Clone(whole)
	for _, next := range []uint32{2, 3, 9} {
		x := api.Box{Name: "a", Epoch: 1, Next: next, Msgs: list}
		first, _ := log.Write(x)
		second, _ := log.Write(x)
		third := bytes.Clone(second)
		scribble(first)
		if !slices.EqualFunc(list[:3], before, sameMsg) || !bytes.Equal(whole, octets) {
			t.Error("the mailbox, or spare room of it, was changed")
		}
		scribble(part)
		if !bytes.Equal(second, third) {
			t.Error("a log shares memory")
		}
		copy(whole, octets)
	}
}

package mail_test

import (
	"bytes"
	"math"
	"math/rand"
	"strings"
	"testing"

	"cubby/api"
	"cubby/mail"
)

// P12.1: Right

func wantRight(t *testing.T, what any, b api.Box, want bool) {
	t.Helper()
	if got := mail.Right(b); got != want {
		t.Errorf("%v: right: %v", what, got)
	}
	if plain := plainRight(b); plain != want {
		t.Errorf("%v: by the chapter's words it is %v", what, plain)
	}
}

func TestRightOfWrongs(t *testing.T) {
	for what, b := range wrongs() {
		wantRight(t, what, b, false)
	}
}

func TestRightOfRightOnes(t *testing.T) {
	for what, b := range map[string]api.Box{
		"the least":       {Name: "a", Epoch: 1, Next: 1},
		"the greatest":    {Name: strings.Repeat("n", 60), Epoch: last, Next: last},
		"no messages":     {Name: "a", Epoch: 1, Next: 1, Msgs: []api.Msg{}},
		"some":            some(),
		"one":             plenty(1),
		"499":             plenty(499),
		"500":             plenty(500),
		"500, late":       late(500, last),
		"gaps":            {Name: "a", Epoch: 1, Next: last, Msgs: []api.Msg{{UID: 1}, {UID: 1 << 31}, {UID: last - 1}}},
		"beyond 31 bits":  {Name: "a", Epoch: 1 << 31, Next: 1<<31 + 3, Msgs: []api.Msg{{UID: 1<<31 - 1}, {UID: 1 << 31}, {UID: 1<<31 + 1}}},
		"just below next": {Name: "a", Epoch: 1, Next: 3, Msgs: []api.Msg{{UID: 2}}},
	} {
		wantRight(t, what, b, true)
	}
}

func names() map[string]bool {
	l := map[string]bool{
		"INBOX": true, "a": true, "Z": true, "0": true, ".": true, "..": true, "_": true, "-": true, "a/b": true, "INBOX/a": true, "inbox/a": true, "a/INBOX": true, "a/inbox": true, "inboxx": true, "lists.go-nuts_2026/x": true,
		"": false, "inbox": false, "Inbox": false, "INBOx": false, "iNBOX": false, "/": false, "a/": false, "/a": false, "a//b": false, " ": false, "a b": false, " a": false, "a ": false, "a\n": false, "a\x00": false, "*": false, "%": false, `a"`: false, "é": false, "\xff": false, "а": false,
		strings.Repeat("n", 60): true, strings.Repeat("a/", 29) + "ab": true,
		strings.Repeat("n", 61): false, strings.Repeat("a/", 30): false, strings.Repeat("a/", 30) + "a": false, strings.Repeat("n", 1<<20): false,
	}
	for c := range 256 {
		s := "x" + string([]byte{byte(c)}) + "y"
		l[s] = isName(s)
	}
	return l
}

func TestRightOfNames(t *testing.T) {
	for name, want := range names() {
		b := some()
		b.Name = name
		wantRight(t, name, b, want)
		wantRight(t, name, api.Box{Name: name, Epoch: 1, Next: 1}, want)
	}
}

func TestRightOfNumbers(t *testing.T) {
	for _, n := range []uint32{0, 1, 2, 1<<31 - 1, 1 << 31, last - 1, last} {
		wantRight(t, n, api.Box{Name: "a", Epoch: n, Next: 1}, n > 0)
		wantRight(t, n, api.Box{Name: "a", Epoch: 1, Next: n}, n > 0)
		wantRight(t, n, api.Box{Name: "a", Epoch: n, Next: n}, n > 0)
		// Nor has it to be ahead of a message that is wrong otherwise.
		wantRight(t, n, api.Box{Name: "a", Epoch: 1, Next: n, Msgs: []api.Msg{{UID: 0}}}, false)
		wantRight(t, n, api.Box{Name: "a", Epoch: 1, Next: n, Msgs: []api.Msg{{UID: 1}}}, n > 1)
	}
}

func TestRightOfUIDs(t *testing.T) {
	values := []uint32{0, 1, 2, 3, 1 << 31, last - 2, last - 1, last}
	for _, one := range values {
		for _, two := range values {
			for _, next := range values {
				b := api.Box{Name: "a", Epoch: 1, Next: next, Msgs: []api.Msg{{UID: one}, {UID: two}}}
				wantRight(t, []uint32{one, two, next}, b, 0 < one && one < two && two < next)
			}
		}
	}
	for place := range 5 {
		for uid := uint32(0); uid < 25; uid++ {
			b := some()
			b.Msgs[place].UID = uid
			wantRight(t, []int{place, int(uid)}, b, plainRight(b))
		}
	}
}

func TestRightOfCounts(t *testing.T) {
	for _, n := range []int{0, 1, 2, 255, 256, 499, 500, 501, 502, 1000, 65536, 65537, 100000} {
		wantRight(t, n, plenty(n), n <= 500)
	}
}

// Each message is asked for, wherever it stands.
func TestRightOfMessages(t *testing.T) {
	turn := func(what any, change func(m *api.Msg), want bool) {
		for _, n := range []int{1, 3, 500} {
			for _, place := range []int{0, n / 2, n - 1} {
				b := plenty(n)
				change(&b.Msgs[place])
				wantRight(t, []any{what, n, place}, b, want)
			}
		}
	}
	for _, date := range []int64{math.MinInt64, -1 << 32, -1, 0, 1, 1 << 31, 1 << 32, lastTime - 1, lastTime, lastTime + 1, 1 << 48, math.MaxInt64} {
		turn(date, func(m *api.Msg) { m.Date = date }, isTime(date))
	}
	for flags := -70; flags < 300; flags++ {
		turn(flags, func(m *api.Msg) { m.Flags = flags }, areFlags(flags))
	}
	for _, flags := range []int{math.MinInt, math.MaxInt, 1 << 31, 1<<32 | 1, 1<<62 | 31, -1 << 8} {
		turn(flags, func(m *api.Msg) { m.Flags = flags }, false)
	}
	for _, size := range []int{0, 1, 255, 19999, 20000, 20001, 30000, 65536, 1 << 20} {
		octets := make([]byte, size)
		turn(size, func(m *api.Msg) { m.Octets = octets }, size <= 20000)
	}
	// Octets have any bytes.
	all := make([]byte, 256)
	for c := range all {
		all[c] = byte(c)
	}
	turn("all bytes", func(m *api.Msg) { m.Octets = all }, true)
}

func TestRightAtRandom(t *testing.T) {
	r := random{rand.New(rand.NewSource(121))}
	right, wrong := 0, 0
	for k := range 10000 {
		b := r.box()
		wantRight(t, k, b, plainRight(b))
		if plainRight(b) {
			right++
		} else {
			wrong++
		}
	}
	if right < 1000 || wrong < 1000 {
		t.Error("nearly nothing was right, or nearly nothing wrong:", right, wrong)
	}
}

// P12.1: New

func TestNew(t *testing.T) {
	for name, is := range names() {
		for _, epoch := range []uint32{0, 1, 2, 1 << 31, last} {
			b, e := mail.New(name, epoch)
			if is && epoch > 0 {
				want(t, name, answer{b, nil, e}, answer{b: api.Box{Name: name, Epoch: epoch, Next: 1}})
			} else {
				want(t, name, answer{b, nil, e}, no(api.ErrArg))
			}
		}
	}
}

// P12.1: At

func wantAt(t *testing.T, b api.Box, uid uint32, want int) {
	t.Helper()
	if got := mail.At(b, uid); got != want {
		t.Errorf("of %s: %d is at %d, want %d", short(told(b)), uid, got, want)
	}
}

func TestAt(t *testing.T) {
	for uid := range uint32(30) {
		want := -1
		for place, there := range []uint32{2, 3, 7, 8, 19} {
			if uid == there {
				want = place
			}
		}
		wantAt(t, some(), uid, want)
	}
	for _, uid := range []uint32{0, 1, 2, last - 1, last} {
		wantAt(t, api.Box{}, uid, -1)
		wantAt(t, api.Box{Name: "a", Epoch: 1, Next: uid, Msgs: []api.Msg{}}, uid, -1)
	}
	for _, n := range []int{1, 2, 3, 499, 500} {
		wantAt(t, plenty(n), 0, -1)
		wantAt(t, late(n, last), last, -1)
		wantAt(t, late(n, last), last-uint32(n)-1, -1)
		for place := range n {
			wantAt(t, plenty(n), uint32(place)+1, place)
			wantAt(t, late(n, last), last-uint32(n-place), place)
		}
		wantAt(t, plenty(n), uint32(n)+1, -1)
	}
}

// It isn't asked whether the mailbox is right: the first one that has the UID is told.
func TestAtOfWrongOnes(t *testing.T) {
	b := api.Box{Msgs: []api.Msg{{UID: 9}, {UID: 4}, {UID: 0}, {UID: last}, {UID: 4}, {UID: 9}, {UID: 1, Flags: -1, Date: -1}}}
	for uid, want := range map[uint32]int{9: 0, 4: 1, 0: 2, last: 3, 1: 6, 2: -1, 5: -1, 10: -1, last - 1: -1} {
		wantAt(t, b, uid, want)
	}
	wantAt(t, plenty(100000), 99999, 99998)
	wantAt(t, plenty(100000), 100001, -1)
}

// P12.1: Same

func wantSame(t *testing.T, what any, a, b api.Box, want bool) {
	t.Helper()
	if mail.Same(a, b) != want || mail.Same(b, a) != want {
		t.Errorf("%v: the same: %v, %v, want %v", what, mail.Same(a, b), mail.Same(b, a), want)
	}
}

func TestSame(t *testing.T) {
	for what, turn := range map[string]func(b *api.Box){
		"name":           func(b *api.Box) { b.Name = "lists/Go" },
		"no name":        func(b *api.Box) { b.Name = "" },
		"a longer name":  func(b *api.Box) { b.Name += "/a" },
		"epoch":          func(b *api.Box) { b.Epoch++ },
		"next":           func(b *api.Box) { b.Next++ },
		"first UID":      func(b *api.Box) { b.Msgs[0].UID = 1 },
		"last UID":       func(b *api.Box) { b.Msgs[4].UID-- },
		"first time":     func(b *api.Box) { b.Msgs[0].Date++ },
		"last time":      func(b *api.Box) { b.Msgs[4].Date = 1 << 40 },
		"first flags":    func(b *api.Box) { b.Msgs[0].Flags = 9 },
		"last flags":     func(b *api.Box) { b.Msgs[4].Flags = 0 },
		"first octets":   func(b *api.Box) { b.Msgs[0].Octets = []byte("onf") },
		"last octets":    func(b *api.Box) { b.Msgs[4].Octets[299] = '6' },
		"longer octets":  func(b *api.Box) { b.Msgs[3].Octets = []byte("four ") },
		"shorter octets": func(b *api.Box) { b.Msgs[3].Octets = b.Msgs[3].Octets[:3] },
		"octets of none": func(b *api.Box) { b.Msgs[1].Octets = []byte{0} },
		"no octets":      func(b *api.Box) { b.Msgs[2].Octets = nil },
		"one fewer":      func(b *api.Box) { b.Msgs = b.Msgs[:4] },
		"without first":  func(b *api.Box) { b.Msgs = b.Msgs[1:] },
		"one more":       func(b *api.Box) { b.Msgs = append(b.Msgs, api.Msg{}) },
		"none":           func(b *api.Box) { b.Msgs = nil },
		"order":          func(b *api.Box) { b.Msgs[0], b.Msgs[1] = b.Msgs[1], b.Msgs[0] },
		"octets change":  func(b *api.Box) { b.Msgs[0].Octets, b.Msgs[3].Octets = b.Msgs[3].Octets, b.Msgs[0].Octets },
	} {
		b := some()
		turn(&b)
		wantSame(t, what, some(), b, false)
		wantSame(t, what, b, b, true)
	}
	wantSame(t, "some", some(), some(), true)
	wantSame(t, "500", plenty(500), plenty(500), true)
	wantSame(t, "zero", api.Box{}, api.Box{}, true)
	wantSame(t, "zero and some", api.Box{}, some(), false)
}

// Lists of nothing mean the same, and so do lists in other memory, with other room.
func TestSameOfLists(t *testing.T) {
	for _, a := range [][]api.Msg{nil, {}, make([]api.Msg, 0, 9)} {
		wantSame(t, "no messages", api.Box{Name: "a", Msgs: a}, api.Box{Name: "a"}, true)
		wantSame(t, "no messages", api.Box{Name: "a", Msgs: a}, api.Box{Name: "a", Msgs: []api.Msg{}}, true)
	}
	for _, a := range [][]byte{nil, {}, make([]byte, 0, 9)} {
		wantSame(t, "no octets", api.Box{Msgs: []api.Msg{{UID: 1, Octets: a}}}, api.Box{Msgs: []api.Msg{{UID: 1}}}, true)
		wantSame(t, "no octets", api.Box{Msgs: []api.Msg{{UID: 1, Octets: a}}}, api.Box{Msgs: []api.Msg{{UID: 1, Octets: []byte{}}}}, true)
	}
	b := some()
	b.Msgs = append(make([]api.Msg, 0, 50), b.Msgs...)
	b.Msgs[0].Octets = append(make([]byte, 0, 50), "one"...)
	wantSame(t, "room", some(), b, true)
}

// Same takes mailboxes as they are, also wrong ones.
func TestSameOfWrongOnes(t *testing.T) {
	for what, a := range wrongs() {
		for other, b := range wrongs() {
			wantSame(t, what+", "+other, a, b, what == other)
		}
		wantSame(t, what, a, some(), false)
	}
	a, b := plenty(100000), plenty(100000)
	wantSame(t, "great ones", a, b, true)
	b.Msgs[99999].Octets = bytes.Repeat([]byte("x"), 1<<20)
	wantSame(t, "great ones", a, b, false)
}

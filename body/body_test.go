package body_test

import (
	"bytes"
	"crypto/sha256"
	"encoding/binary"
	"hash/crc32"
	"math"
	"math/rand"
	"regexp"
	"strings"
	"testing"

	"cubby/api"
	"cubby/body"
	"cubby/frame"
)

const lastTime = 253402300799

func box(epoch uint32, name string) body.Note { return body.Note{Kind: 1, Epoch: epoch, Name: name} }

func message(epoch uint32, name string, m api.Msg) body.Note {
	return body.Note{Kind: 2, Epoch: epoch, Name: name, Msg: m}
}

func gone(epoch, uid uint32) body.Note {
	return body.Note{Kind: 3, Epoch: epoch, Msg: api.Msg{UID: uid}}
}

// allValues answers n bytes, among which all values come by turns.
func allValues(n int) []byte {
	b := make([]byte, n)
	for i := range b {
		b[i] = byte(i*7 + i/256)
	}
	return b
}

func same(a, b body.Note) bool {
	return a.Kind == b.Kind && a.Epoch == b.Epoch && a.Name == b.Name && a.Msg.UID == b.Msg.UID && a.Msg.Date == b.Msg.Date &&
		a.Msg.Flags == b.Msg.Flags && bytes.Equal(a.Msg.Octets, b.Msg.Octets)
}

func isZero(n body.Note) bool { return same(n, body.Note{}) }

// The chapter's words, told once more by means that the program hasn't.

var parts = regexp.MustCompile(`\A[A-Za-z0-9._-]+(/[A-Za-z0-9._-]+)*\z`)

func isName(s string) bool {
	return len(s) <= 60 && parts.MatchString(s) && (s == "INBOX" || strings.ToUpper(s) != "INBOX")
}

func isFormed(n body.Note) bool {
	m := n.Msg
	named, numbered := isName(n.Name), m.UID >= 1
	bare := m.Date == 0 && m.Flags == 0 && len(m.Octets) == 0
	fits := m.Date >= 0 && m.Date <= lastTime && m.Flags >= 0 && m.Flags <= 31 && len(m.Octets) <= 20000
	return n.Epoch >= 1 && (n.Kind == 1 && named && !numbered && bare || n.Kind == 2 && named && numbered && fits ||
		n.Kind == 3 && n.Name == "" && numbered && bare)
}

// bytesOf answers the last bytes of a number, the greatest first.
func bytesOf(v uint64, size int) []byte { return binary.BigEndian.AppendUint64(nil, v)[8-size:] }

// plainPayload answers the payload of a note, formed or not, as far as its numbers have room.
func plainPayload(n body.Note) []byte {
	b := bytesOf(uint64(n.Epoch), 4)
	if n.Kind != 1 {
		b = append(b, bytesOf(uint64(n.Msg.UID), 4)...)
	}
	if n.Kind == 2 {
		b = append(append(b, bytesOf(uint64(n.Msg.Date), 6)...), byte(n.Msg.Flags))
	}
	if n.Kind != 3 {
		b = append(append(b, bytesOf(uint64(len(n.Name)), 2)...), n.Name...)
	}
	if n.Kind == 2 {
		b = append(b, n.Msg.Octets...)
	}
	return b
}

// plainDecode answers the note of a payload, and whether it is a formed one's.
func plainDecode(kind int, b []byte) (body.Note, bool) {
	n := body.Note{Kind: kind}
	short := false
	next := func(size int) []byte {
		if short || size > len(b) {
			short = true
			return nil
		}
		part := b[:size]
		b = b[size:]
		return part
	}
	number := func(size int) uint64 {
		var wide [8]byte
		copy(wide[8-size:], next(size))
		return binary.BigEndian.Uint64(wide[:])
	}
	n.Epoch = uint32(number(4))
	if kind != 1 {
		n.Msg.UID = uint32(number(4))
	}
	if kind == 2 {
		n.Msg.Date = int64(number(6))
		n.Msg.Flags = int(number(1))
	}
	if kind != 3 {
		n.Name = string(next(int(number(2))))
	}
	if kind == 2 {
		n.Msg.Octets = next(len(b))
	}
	return n, !short && len(b) == 0 && isFormed(n)
}

// plainFrame answers a frame, made by the library, which tests may use.
func plainFrame(kind int, payload []byte) []byte {
	b := binary.BigEndian.AppendUint32(append([]byte("cub"), byte(kind)), uint32(len(payload)))
	b = binary.BigEndian.AppendUint32(b, crc32.ChecksumIEEE(b))
	digest := sha256.Sum256(payload)
	return append(append(b, digest[:]...), payload...)
}

// told makes a note short enough to be looked at.
func told(n body.Note) body.Note {
	n.Msg.Octets = n.Msg.Octets[:min(len(n.Msg.Octets), 16)]
	n.Name = n.Name[:min(len(n.Name), 100)]
	return n
}

// wantFormed fails, if a note isn't taken for a formed one by each call, or its payload is another one.
func wantFormed(t *testing.T, n body.Note, payload []byte) {
	t.Helper()
	if !body.Formed(n) {
		t.Errorf("%v isn't formed", told(n))
	}
	if b, e := body.Encode(n); !bytes.Equal(b, payload) || e != api.OK {
		t.Errorf("Encode(%v): %.100x, %d, want %.100x", told(n), b, e, payload)
	}
	if b, e := body.Frame(n); !bytes.Equal(b, plainFrame(n.Kind, payload)) || e != api.OK {
		t.Errorf("Frame(%v): %.200x, %d", told(n), b, e)
	}
	if got, e := body.Decode(n.Kind, payload); !same(got, n) || e != api.OK {
		t.Errorf("Decode(%d, %.100x): %v, %d, want %v", n.Kind, payload, told(got), e, told(n))
	}
}

func wantNotFormed(t *testing.T, what string, n body.Note) {
	t.Helper()
	if body.Formed(n) {
		t.Errorf("%s: %v is formed", what, told(n))
	}
	if b, e := body.Encode(n); len(b) != 0 || e != api.ErrArg {
		t.Errorf("%s: Encode(%v): %.100x, %d, want ErrArg", what, told(n), b, e)
	}
	if b, e := body.Frame(n); len(b) != 0 || e != api.ErrArg {
		t.Errorf("%s: Frame(%v): %.100x, %d, want ErrArg", what, told(n), b, e)
	}
}

func wantErrForm(t *testing.T, what string, kind int, payload []byte) {
	t.Helper()
	if n, e := body.Decode(kind, payload); !isZero(n) || e != api.ErrForm {
		t.Errorf("%s: Decode(%d, %.100x): %v, %d, want ErrForm", what, kind, payload, told(n), e)
	}
}

// rightNames answers names, as they are written.
func rightNames() []string {
	long := strings.Repeat("a", 60)
	return []string{
		"INBOX", "a", "Z", "0", ".", "_", "-", "a/b", "lists/go/dev", "./..", "INBOX/a", "inbox/a", "a/INBOX", "a/inbox", "INBOX2", "inbo", "inboxx", "INBO_X",
		long, long[:59], long[:58] + "/b", strings.Repeat("a/", 29) + "bc",
	}
}

// wrongNames answers texts that aren't names, or are written otherwise.
func wrongNames() []string {
	long := strings.Repeat("a", 61)
	return []string{
		"", "inbox", "Inbox", "INBOx", "iNBOX", "/", "//", "a/", "/a", "a//b", "a b", " a", "a ", "a\x00", "\x00", "*", "%", "a\\b", "a,b", "\"a\"", "\u00e9", "\xff", "a\n", "\r\n",
		"\u0131NBOX", "\u017f", "INBOX/", "/INBOX", long, strings.Repeat("a/", 30) + "b", strings.Repeat("a", 255), strings.Repeat("a", 256), strings.Repeat("a", 257),
		strings.Repeat("a", 65535),
	}
}

// all is a message that says all that one may say.
func all() api.Msg {
	return api.Msg{UID: 258, Date: 65536, Flags: 9, Octets: []byte("hi")}
}

// Formed, Encode, Decode and Frame of what is formed

func TestByHand(t *testing.T) {
	for _, c := range []struct {
		n       body.Note
		payload string
	}{
		{box(1, "INBOX"), "\x00\x00\x00\x01\x00\x05INBOX"},
		{box(0x01020304, "lists/go"), "\x01\x02\x03\x04\x00\x08lists/go"},
		{box(math.MaxUint32, "a"), "\xff\xff\xff\xff\x00\x01a"},
		{message(2, "a", api.Msg{UID: 1}), "\x00\x00\x00\x02\x00\x00\x00\x01\x00\x00\x00\x00\x00\x00\x00\x00\x01a"},
		{message(1, "INBOX", all()), "\x00\x00\x00\x01\x00\x00\x01\x02\x00\x00\x00\x01\x00\x00\x09\x00\x05INBOXhi"},
		{message(0xa0b0c0d0, "b", api.Msg{UID: 0x0a0b0c0d, Date: 0x001122334455, Flags: 31, Octets: []byte{0, 255, 0}}),
			"\xa0\xb0\xc0\xd0\x0a\x0b\x0c\x0d\x00\x11\x22\x33\x44\x55\x1f\x00\x01b\x00\xff\x00"},
		{message(math.MaxUint32, "b", api.Msg{UID: math.MaxUint32, Date: lastTime, Flags: api.Draft, Octets: []byte("\r\n")}),
			"\xff\xff\xff\xff\xff\xff\xff\xff\x00\x3a\xff\xf4\x41\x7f\x10\x00\x01b\r\n"},
		{gone(1, 7), "\x00\x00\x00\x01\x00\x00\x00\x07"},
		{gone(math.MaxUint32, 0x01020304), "\xff\xff\xff\xff\x01\x02\x03\x04"},
		{gone(3, math.MaxUint32), "\x00\x00\x00\x03\xff\xff\xff\xff"},
	} {
		wantFormed(t, c.n, []byte(c.payload))
	}
}

func TestFormed(t *testing.T) {
	for _, epoch := range []uint32{1, 2, 255, 256, 65536, 1 << 24, 1 << 31, math.MaxUint32 - 1, math.MaxUint32} {
		want := func(n body.Note) {
			t.Helper()
			wantFormed(t, n, plainPayload(n))
		}
		want(box(epoch, "a"))
		want(message(epoch, "a", all()))
		want(message(1, "a", api.Msg{UID: epoch}))
		want(gone(epoch, 1))
		want(gone(1, epoch))
		for _, name := range rightNames() {
			want(box(epoch, name))
			want(message(epoch, name, all()))
		}
		for flags := range 32 {
			want(message(epoch, "a", api.Msg{UID: 1, Flags: flags}))
		}
		for _, date := range []int64{0, 1, 255, 256, 1 << 31, 1 << 32, 837596665, lastTime - 1, lastTime} {
			want(message(epoch, "a", api.Msg{UID: 1, Date: date}))
		}
		for _, size := range []int{0, 1, 2, 255, 256, 19999, 20000} {
			want(message(epoch, "a", api.Msg{UID: 1, Octets: allValues(size)}))
		}
	}
	most := message(math.MaxUint32, strings.Repeat("a", 60), api.Msg{UID: math.MaxUint32, Date: lastTime, Flags: 31, Octets: allValues(20000)})
	wantFormed(t, most, plainPayload(most))
}

// R4: octets that are no bytes are none, of each kind.
func TestNoOctets(t *testing.T) {
	for _, n := range []body.Note{box(1, "a"), message(1, "a", api.Msg{UID: 1}), gone(1, 1)} {
		for _, none := range [][]byte{nil, {}, make([]byte, 0, 9)} {
			n.Msg.Octets = none
			wantFormed(t, n, plainPayload(n))
		}
	}
}

// Formed, Encode and Frame of what isn't formed

func TestKindsThatAreNone(t *testing.T) {
	for _, kind := range []int{0, 4, 5, -1, -2, -3, 255, 256, 257, 258, 259, 1<<32 + 1, 1<<32 + 2, 1<<32 + 3, math.MinInt, math.MinInt + 1, math.MaxInt} {
		for _, n := range []body.Note{{}, box(1, "a"), message(1, "a", all()), message(1, "a", api.Msg{UID: 1}), gone(1, 1)} {
			payload := plainPayload(n)
			n.Kind = kind
			wantNotFormed(t, "kind", n)
			wantErrForm(t, "kind", kind, payload)
			wantErrForm(t, "kind", kind, payload[:4])
			wantErrForm(t, "kind", kind, nil)
		}
	}
}

func TestNothingOfAKind(t *testing.T) {
	for kind := 1; kind <= 3; kind++ {
		wantNotFormed(t, "nothing", body.Note{Kind: kind})
		wantNotFormed(t, "an epoch alone", body.Note{Kind: kind, Epoch: 1})
	}
}

func TestNumbersThatAreNone(t *testing.T) {
	for what, n := range map[string]body.Note{
		"a box, epoch 0":      box(0, "a"),
		"a message, epoch 0":  message(0, "a", all()),
		"one gone, epoch 0":   gone(0, 1),
		"a message, UID 0":    message(1, "a", api.Msg{Date: 1, Flags: 1, Octets: []byte("x")}),
		"one gone, UID 0":     gone(1, 0),
		"one gone, both 0":    gone(0, 0),
		"a message, both 0":   message(0, "a", api.Msg{}),
		"INBOX, epoch 0":      box(0, "INBOX"),
		"a message, all else": message(0, "INBOX", api.Msg{UID: math.MaxUint32, Date: lastTime, Flags: 31, Octets: allValues(20000)}),
	} {
		wantNotFormed(t, what, n)
		wantErrForm(t, what, n.Kind, plainPayload(n))
	}
}

func TestNamesThatAreNone(t *testing.T) {
	for _, name := range wrongNames() {
		for _, n := range []body.Note{box(1, name), message(1, name, all()), message(1, name, api.Msg{UID: 1})} {
			wantNotFormed(t, "name", n)
			wantErrForm(t, "name", n.Kind, plainPayload(n))
		}
	}
	wantNotFormed(t, "a name that is too long for any payload", box(1, strings.Repeat("a", 65536)))
	wantNotFormed(t, "a name that is too long for any payload", message(1, strings.Repeat("a", 1<<20), all()))
}

func TestTimesThatAreNone(t *testing.T) {
	for _, date := range []int64{-1, -2, math.MinInt64, lastTime + 1, lastTime + 2, 1<<48 - 1, 1 << 48, 1<<48 + 1, 1 << 56, math.MaxInt64} {
		n := message(1, "a", all())
		n.Msg.Date = date
		wantNotFormed(t, "time", n)
		if 0 <= date && date < 1<<48 {
			wantErrForm(t, "time", 2, plainPayload(n))
		}
	}
}

func TestFlagsThatAreNone(t *testing.T) {
	for _, flags := range []int{32, 33, 63, 64, 128, 255, 256, 257, 256 + 31, 1 << 32, 1<<32 + 1, -1, -2, -32, math.MinInt, math.MinInt + 1, math.MaxInt} {
		n := message(1, "a", all())
		n.Msg.Flags = flags
		wantNotFormed(t, "flags", n)
		if 0 <= flags && flags < 256 {
			wantErrForm(t, "flags", 2, plainPayload(n))
		}
	}
}

func TestOctetsThatAreTooMany(t *testing.T) {
	for _, size := range []int{20001, 20002, 29900, 29982, 29983, 30000, 30001, 65536, 1 << 22} {
		n := message(1, "a", all())
		n.Msg.Octets = allValues(size)
		wantNotFormed(t, "octets", n)
		wantErrForm(t, "octets", 2, plainPayload(n))
	}
}

// What its kind doesn't have is zero.
func TestWhatAKindDoesNotHave(t *testing.T) {
	for what, m := range map[string]api.Msg{
		"a time":           {Date: 1},
		"a time below 0":   {Date: -1},
		"the last time":    {Date: lastTime},
		"a time, far away": {Date: 1 << 32},
		"flags":            {Flags: 1},
		"all flags":        {Flags: 31},
		"another bit":      {Flags: 32},
		"far bits":         {Flags: 1 << 32},
		"an octet":         {Octets: []byte{0}},
		"octets":           {Octets: allValues(20000)},
		"all of these":     {Date: 1, Flags: 1, Octets: []byte("x")},
	} {
		n := box(1, "a")
		n.Msg = m
		wantNotFormed(t, "a box with "+what, n)
		n = gone(1, 1)
		m.UID = 1
		n.Msg = m
		wantNotFormed(t, "one gone with "+what, n)
	}
	for _, uid := range []uint32{1, 256, math.MaxUint32} {
		n := box(1, "a")
		n.Msg.UID = uid
		wantNotFormed(t, "a box with a UID", n)
	}
	for _, name := range append(rightNames(), wrongNames()...) {
		n := gone(1, 1)
		n.Name = name
		if name != "" {
			wantNotFormed(t, "one gone with a name", n)
		}
	}
}

// Decode of what isn't just a payload

func TestDecodeCutOffAndLonger(t *testing.T) {
	for _, n := range []body.Note{box(1, "a"), box(1, "INBOX"), message(1, "a", api.Msg{UID: 1}), message(1, "lists/go", all()), gone(1, 1)} {
		payload := plainPayload(n)
		least := len(payload) - len(n.Msg.Octets)
		for cut := range least {
			wantErrForm(t, "cut off", n.Kind, payload[:cut])
		}
		for c := range 256 {
			longer := append(bytes.Clone(payload), byte(c))
			if n.Kind == 2 {
				// Of a message all that follows the name is its octets.
				more := n
				more.Msg.Octets = append(bytes.Clone(n.Msg.Octets), byte(c))
				wantFormed(t, more, longer)
			} else {
				wantErrForm(t, "longer", n.Kind, longer)
			}
		}
		wantErrForm(t, "twice", 1, bytes.Repeat(payload, 2))
		wantErrForm(t, "twice", 3, bytes.Repeat(payload, 2))
	}
	for kind := range 5 {
		wantErrForm(t, "no bytes", kind, nil)
		wantErrForm(t, "no bytes", kind, []byte{})
		wantErrForm(t, "noughts", kind, make([]byte, 100))
		wantErrForm(t, "noughts", kind, make([]byte, 8))
		wantErrForm(t, "many bytes", kind, bytes.Repeat([]byte{0xff}, 1<<22))
	}
}

// A name's length that is another one than it is.
func TestDecodeLengths(t *testing.T) {
	wantErrForm(t, "a byte less", 1, []byte("\x00\x00\x00\x01\x00\x04INBOX"))
	wantErrForm(t, "a byte more", 1, []byte("\x00\x00\x00\x01\x00\x06INBOX"))
	wantErrForm(t, "the least first", 1, []byte("\x00\x00\x00\x01\x05\x00INBOX"))
	wantErrForm(t, "none", 1, []byte("\x00\x00\x00\x01\x00\x00"))
	wantErrForm(t, "the greatest", 1, []byte("\x00\x00\x00\x01\xff\xffINBOX"))
	ahead := "\x00\x00\x00\x01\x00\x00\x01\x02\x00\x00\x00\x01\x00\x00\x09"
	wantFormed(t, message(1, "INBO", api.Msg{UID: 258, Date: 65536, Flags: 9, Octets: []byte("Xhi")}), []byte(ahead+"\x00\x04INBOXhi"))
	wantFormed(t, message(1, "INBOXhi", api.Msg{UID: 258, Date: 65536, Flags: 9}), []byte(ahead+"\x00\x07INBOXhi"))
	wantErrForm(t, "a byte more than there are", 2, []byte(ahead+"\x00\x08INBOXhi"))
	wantErrForm(t, "none", 2, []byte(ahead+"\x00\x00INBOXhi"))
	wantErrForm(t, "no length", 2, []byte(ahead))
	wantErrForm(t, "half a length", 2, []byte(ahead+"\x00"))
}

func wantAsPlain(t *testing.T, kind int, payload []byte) bool {
	t.Helper()
	n, ok := plainDecode(kind, payload)
	if !ok {
		wantErrForm(t, "as the chapter says", kind, payload)
		return false
	}
	wantFormed(t, n, payload)
	return true
}

// Every byte at every place of a payload, told to be of each kind.
func TestDecodeOfBytes(t *testing.T) {
	right, wrong := 0, 0
	for _, n := range []body.Note{box(1, "INBOX"), box(258, "a/b"), message(1, "inbo", api.Msg{UID: 1, Date: lastTime, Flags: 9, Octets: []byte("X")}), gone(1, 1)} {
		payload := plainPayload(n)
		for at := range payload {
			for c := range 256 {
				turned := bytes.Clone(payload)
				turned[at] = byte(c)
				for kind := range 5 {
					if wantAsPlain(t, kind, turned) {
						right++
					} else {
						wrong++
					}
				}
			}
		}
	}
	if right < 1000 || wrong < 1000 {
		t.Error("nearly nothing was right, or nearly nothing wrong:", right, wrong)
	}
}

// A payload of one kind, taken for one of another.
func TestDecodeOfOtherKinds(t *testing.T) {
	for _, n := range []body.Note{box(1, "a"), box(1, "ab"), message(1, "a", all()), message(1, "a", api.Msg{UID: 1}), message(1, "INBOX", api.Msg{UID: 0x00010001}), gone(1, 1), gone(1, math.MaxUint32)} {
		for kind := 1; kind <= 3; kind++ {
			if wantAsPlain(t, kind, plainPayload(n)) != (kind == n.Kind) && n.Name != "ab" {
				t.Errorf("%v, taken for kind %d", n, kind)
			}
		}
	}
	// A box whose name is two bytes long is as long as one gone, and is taken for it.
	wantFormed(t, gone(1, 0x00026162), plainPayload(box(1, "ab")))
}

// At random

func randomNote(r *rand.Rand) body.Note {
	pick := func(l ...int64) int64 { return l[r.Intn(len(l))] }
	names := append(append(rightNames(), rightNames()...), wrongNames()[:12]...)
	n := body.Note{Kind: int(pick(0, 1, 1, 1, 2, 2, 2, 2, 2, 3, 3, 3, 4)), Epoch: uint32(pick(0, 1, 1, 1, 1, 258, math.MaxUint32)), Name: names[r.Intn(len(names))]}
	n.Msg = api.Msg{UID: uint32(pick(0, 1, 1, 1, 70000, math.MaxUint32)), Date: pick(0, 0, 1, 1<<30, lastTime, lastTime, lastTime+1), Flags: int(pick(0, 1, 8, 31, 31, 32)), Octets: allValues(r.Intn(40))}
	if n.Kind == 3 && r.Intn(4) != 0 {
		n.Name = ""
	}
	if n.Kind == 1 && r.Intn(4) != 0 {
		n.Msg.UID = 0
	}
	if n.Kind != 2 && r.Intn(4) != 0 {
		n.Msg = api.Msg{UID: n.Msg.UID}
	}
	return n
}

func TestAtRandom(t *testing.T) {
	r := rand.New(rand.NewSource(9))
	formed, others, decoded := 0, 0, 0
	for range 30000 {
		n := randomNote(r)
		if isFormed(n) {
			formed++
			wantFormed(t, n, plainPayload(n))
		} else {
			others++
			wantNotFormed(t, "at random", n)
		}
		payload := plainPayload(n)
		if r.Intn(2) == 0 {
			payload[r.Intn(len(payload))] = byte(r.Intn(256))
		}
		if r.Intn(4) == 0 {
			payload = payload[:r.Intn(len(payload)+1)]
		}
		wantAsPlain(t, r.Intn(5), payload)
		if wantAsPlain(t, n.Kind, payload) {
			decoded++
		}
	}
	if formed < 1000 || others < 1000 || decoded < 1000 || decoded > 29000 {
		t.Error("nearly nothing was formed, or nearly all:", formed, others, decoded)
	}
}

// What layer 4 finds of framed notes are these.
func TestFramesAreScanned(t *testing.T) {
	notes := []body.Note{box(1, "INBOX"), message(1, "INBOX", all()), gone(1, 258), message(1, "INBOX", api.Msg{UID: 259, Octets: allValues(20000)})}
	var log []byte
	for _, n := range notes {
		b, _ := body.Frame(n)
		log = append(log, b...)
	}
	recs, torn := frame.Scan(log)
	if len(recs) != len(notes) || torn != len(log) {
		t.Fatal(len(recs), torn)
	}
	for place, r := range recs {
		if n, e := body.Decode(r.Kind, r.Payload); !same(n, notes[place]) || e != api.OK {
			t.Error(place, told(n), e)
		}
	}
}

// R3

// roomy answers b with spare room behind it, and all of it, to be looked at later.
func roomy(b []byte) (part, whole []byte) {
	whole = append(bytes.Clone(b), bytes.Repeat([]byte{0xaa}, 100)...)
	return whole[:len(b)], whole
}

func scribble(b []byte) {
	b = b[:cap(b)]
	for n := range b {
		b[n] = 0x55
	}
}

func TestMemoryOfNotes(t *testing.T) {
	for _, size := range []int{0, 3, 20000, 20001} {
		part, whole := roomy(allValues(size))
		before := bytes.Clone(whole)
		n := message(1, "a", api.Msg{UID: 1, Octets: part})
		for what, call := range map[string]func(body.Note) ([]byte, api.Errno){"Encode": body.Encode, "Frame": body.Frame} {
			first, _ := call(n)
			second, _ := call(n)
			want := bytes.Clone(second)
			scribble(first)
			body.Formed(n)
			if !bytes.Equal(whole, before) {
				t.Errorf("%s: %d octets, or their spare room, were changed", what, size)
			}
			scribble(part)
			if !bytes.Equal(second, want) {
				t.Errorf("%s: of %d octets: an answer shares memory", what, size)
			}
			copy(whole, before)
		}
	}
}

func TestMemoryOfPayloads(t *testing.T) {
	for _, n := range []body.Note{box(1, "INBOX"), message(1, "INBOX", api.Msg{UID: 1}), message(1, "INBOX", all()), gone(1, 1), box(1, "inbox")} {
		part, whole := roomy(plainPayload(n))
		before := bytes.Clone(whole)
		first, _ := body.Decode(n.Kind, part)
		second, e := body.Decode(n.Kind, part)
		scribble(first.Msg.Octets)
		if !bytes.Equal(whole, before) {
			t.Errorf("the payload of %v, or its spare room, was changed", n)
		}
		scribble(part)
		if e == api.OK && !same(second, n) {
			t.Errorf("the note %v shares memory", n)
		}
	}
}

package page_test

import (
	"bytes"
	"encoding/binary"
	"hash/crc32"
	"math"
	"math/rand"
	"strings"
	"testing"

	"cubby/api"
	"cubby/page"
)

// summed answers bytes with their CRC behind them, which is right, whatever they tell.
func summed(parts ...[]byte) []byte {
	b := bytes.Join(parts, nil)
	return binary.BigEndian.AppendUint32(b, crc32.ChecksumIEEE(b))
}

// ahead answers what stands ahead of a payload.
func ahead(mark string, kind byte, length uint32) []byte {
	return binary.BigEndian.AppendUint32(append([]byte(mark), kind), length)
}

// plain answers a page, made by the library, which tests may use.
func plain(kind int, payload []byte) []byte {
	return summed(ahead("pag", byte(kind), uint32(len(payload))), payload)
}

// allValues answers n bytes, among which all values come by turns.
func allValues(n int) []byte {
	b := make([]byte, n)
	for i := range b {
		b[i] = byte(i*7 + i/256)
	}
	return b
}

// lengths are payloads' lengths that fit, at the edges.
func lengths() []int {
	return []int{0, 1, 2, 3, 4, 11, 12, 13, 255, 256, 257, 30000, 30001, 59999, 60000}
}

// noKinds are numbers that are no page's kind.
func noKinds() []int {
	return []int{0, 4, 5, -1, -2, 255, 256, 257, 258, -255, math.MinInt, math.MinInt + 1, math.MaxInt}
}

// wantPage fails, if b isn't given back as a page of that kind, or as one of another.
func wantPage(t *testing.T, what string, kind int, b, want []byte) {
	t.Helper()
	if got, e := page.Get(kind, b); !bytes.Equal(got, want) || e != api.OK {
		t.Errorf("%s, kind %d, of %d bytes: %d bytes, %d, want %d bytes", what, kind, len(b), len(got), e, len(want))
	}
	for other := 1; other <= 3; other++ {
		if other != kind {
			wantDamaged(t, what+", of another kind", other, b)
		}
	}
	for _, none := range noKinds() {
		wantDamaged(t, what+", of no kind", none, b)
	}
}

func wantDamaged(t *testing.T, what string, kind int, b []byte) {
	t.Helper()
	if got, e := page.Get(kind, b); len(got) != 0 || e != api.ErrDamaged {
		t.Errorf("%s, kind %d, of %d bytes: %d bytes, %d, want none and ErrDamaged", what, kind, len(b), len(got), e)
	}
}

// wantNone fails, if b is a page of any kind, or of none.
func wantNone(t *testing.T, what string, b []byte) {
	t.Helper()
	for kind := 1; kind <= 3; kind++ {
		wantDamaged(t, what, kind, b)
	}
	for _, kind := range noKinds() {
		wantDamaged(t, what, kind, b)
	}
}

// P5.1: Put

func TestPutByHand(t *testing.T) {
	// The CRCs were worked out by another program.
	for _, c := range []struct {
		kind    int
		payload string
		want    string
	}{
		{1, "", "pag\x01\x00\x00\x00\x00" + "\xcc\x22\x1f\xfa"},
		{2, "xy", "pag\x02\x00\x00\x00\x02" + "xy" + "\xde\xd1\x2e\x8a"},
		{3, "abc", "pag\x03\x00\x00\x00\x03" + "abc" + "\xc5\xdd\x50\xe1"},
		{1, "\x00\x01\x02\x03\x04", "pag\x01\x00\x00\x00\x05" + "\x00\x01\x02\x03\x04" + "\x57\xef\x47\x86"},
		{1, strings.Repeat("z", 258), "pag\x01\x00\x00\x01\x02" + strings.Repeat("z", 258) + "\xc5\x35\xc8\xbd"},
		{3, strings.Repeat("\x00", 60000), "pag\x03\x00\x00\xea\x60" + strings.Repeat("\x00", 60000) + "\xde\xf4\x97\x2a"},
	} {
		got, e := page.Put(c.kind, []byte(c.payload))
		if string(got) != c.want || e != api.OK {
			t.Errorf("Put(%d, %d bytes): %d bytes, %d, want %d", c.kind, len(c.payload), len(got), e, len(c.want))
		}
		wantPage(t, "by hand", c.kind, []byte(c.want), []byte(c.payload))
	}
	if page.MaxPage != 60000 {
		t.Error("MaxPage:", page.MaxPage)
	}
}

func TestPutAndGet(t *testing.T) {
	for kind := 1; kind <= 3; kind++ {
		for _, n := range lengths() {
			payload := allValues(n)
			got, e := page.Put(kind, payload)
			if !bytes.Equal(got, plain(kind, payload)) || e != api.OK {
				t.Errorf("kind %d, %d bytes: %d bytes, %d", kind, n, len(got), e)
			}
			wantPage(t, "what was put", kind, got, payload)
		}
	}
	empty, _ := page.Put(2, []byte{})
	if none, e := page.Put(2, nil); !bytes.Equal(none, empty) || e != api.OK {
		t.Error("nil isn't put as no bytes are", e)
	}
}

// A kind that is none is told ahead of a payload that is too long.
func TestPutOfWhatIsNoPage(t *testing.T) {
	want := func(kind, n int, errno api.Errno) {
		t.Helper()
		if got, e := page.Put(kind, make([]byte, n)); len(got) != 0 || e != errno {
			t.Errorf("kind %d, %d bytes: %d bytes, %d, want error %d", kind, n, len(got), e, errno)
		}
	}
	for _, kind := range noKinds() {
		for _, n := range []int{0, 2, 60000, 60001, 65536} {
			want(kind, n, api.ErrArg)
		}
	}
	for kind := 1; kind <= 3; kind++ {
		for _, n := range []int{60001, 60002, 65535, 65536, 1 << 24} {
			want(kind, n, api.ErrLong)
		}
	}
}

// P5.1: Get

func TestGetOfNothing(t *testing.T) {
	wantNone(t, "nil", nil)
	wantNone(t, "empty", []byte{})
	for _, s := range []string{
		"p", "pa", "pag", "pag\x01", "pag\x01\x00\x00\x00", "pag\x01\x00\x00\x00\x00\x00\x00\x00\x00",
		"garbage", strings.Repeat("pag", 100), strings.Repeat("\x00", 12), strings.Repeat("\xff", 12), strings.Repeat("x", 70000),
	} {
		wantNone(t, "garbage", []byte(s))
		wantNone(t, "garbage, summed", summed([]byte(s)))
	}
}

func TestGetOfOneBitTurned(t *testing.T) {
	for kind := 1; kind <= 3; kind++ {
		for _, n := range []int{0, 1, 12, 100} {
			b := plain(kind, allValues(n))
			for bit := range 8 * len(b) {
				b[bit/8] ^= 1 << (bit % 8)
				wantNone(t, "one bit turned", b)
				b[bit/8] ^= 1 << (bit % 8)
			}
			wantPage(t, "all turned back", kind, b, allValues(n))
		}
	}
	b := plain(2, allValues(60000))
	for _, at := range []int{0, 3, 4, 7, 8, 9, 30000, 60006, 60007, 60008, 60011} {
		b[at]++
		wantNone(t, "a byte of a long one", b)
		b[at]--
	}
	wantPage(t, "a long one", 2, b, allValues(60000))
}

func TestGetOfPartsOfOne(t *testing.T) {
	for _, n := range []int{0, 1, 12, 300} {
		b := plain(3, allValues(n))
		for cut := range len(b) {
			wantNone(t, "cut off", b[:cut])
			wantNone(t, "begun late", b[len(b)-cut:])
			if cut != len(b)-4 { // There only the CRC was cut off, and summing makes it anew.
				wantNone(t, "cut off, summed", summed(b[:cut]))
			}
		}
	}
}

// A page is just that: nothing stands ahead of it or behind it, not even another.
func TestGetOfMoreThanOne(t *testing.T) {
	for _, n := range []int{0, 1, 12, 60000} {
		b := plain(1, allValues(n))
		for _, more := range [][]byte{{0}, {'p'}, []byte("pag"), make([]byte, 4), allValues(100), plain(1, nil), b} {
			wantNone(t, "more behind", bytes.Join([][]byte{b, more}, nil))
			wantNone(t, "more ahead", bytes.Join([][]byte{more, b}, nil))
			wantNone(t, "more behind, summed", summed(b, more))
		}
	}
	// What stands where the CRC should is that of all but the last four bytes, itself too.
	wantNone(t, "more behind, and a CRC of it", []byte("pag\x02\x00\x00\x00\x00"+"\x86\xec\xd5\x3e"+"more"))
	wantNone(t, "more behind, and a CRC of it", []byte("pag\x03\x00\x00\x00\x00"+"\x1d\xb7\x6a\xf3"+"more"))
}

// What tells something else than it should, though the CRC is right.
func TestGetWithRightCRC(t *testing.T) {
	payload := allValues(200)
	for what, b := range map[string][]byte{
		"kind 0":           summed(ahead("pag", 0, 200), payload),
		"kind 4":           summed(ahead("pag", 4, 200), payload),
		"kind 5":           summed(ahead("pag", 5, 200), payload),
		"kind 255":         summed(ahead("pag", 255, 200), payload),
		"another mark":     summed(ahead("cub", 1, 200), payload),
		"the mark's first": summed(ahead("qag", 2, 200), payload),
		"the mark's last":  summed(ahead("pah", 3, 200), payload),
		"great letters":    summed(ahead("PAG", 1, 200), payload),
		"no mark":          summed(ahead("", 1, 200), payload),
		"length 0":         summed(ahead("pag", 1, 0), payload),
		"one less":         summed(ahead("pag", 2, 199), payload),
		"one more":         summed(ahead("pag", 3, 201), payload),
		"with the CRC":     summed(ahead("pag", 1, 204), payload),
		"with all":         summed(ahead("pag", 1, 212), payload),
		"a byte turned":    summed(ahead("pag", 2, 200<<24), payload),
		"two bytes turned": summed(ahead("pag", 2, 200<<8), payload),
		"length 2^16":      summed(ahead("pag", 3, 1<<16+200), payload),
		"length 2^31 - 1":  summed(ahead("pag", 1, 1<<31-1), payload),
		"length 2^31":      summed(ahead("pag", 1, 1<<31), payload),
		"length 2^31 more": summed(ahead("pag", 1, 1<<31+200), payload),
		"length 2^32 - 1":  summed(ahead("pag", 1, 1<<32-1), payload),
		"length -12":       summed(ahead("pag", 1, 1<<32-12), payload),
		"no payload":       summed(ahead("pag", 1, 1)),
	} {
		wantNone(t, what, b)
	}
}

// A CRC of something else than all that is ahead of it, or told the other way round.
func TestGetWithWrongCRC(t *testing.T) {
	payload := allValues(200)
	first := ahead("pag", 2, 200)
	all := bytes.Join([][]byte{first, payload}, nil)
	right := crc32.ChecksumIEEE(all)
	for what, crc := range map[string]uint32{
		"none":           0,
		"of the head":    crc32.ChecksumIEEE(first),
		"of the payload": crc32.ChecksumIEEE(payload),
		"of less":        crc32.ChecksumIEEE(all[:len(all)-1]),
		"not turned":     ^right,
		"another":        crc32.Checksum(all, crc32.MakeTable(crc32.Castagnoli)),
		"one more":       right + 1,
	} {
		wantNone(t, what, binary.BigEndian.AppendUint32(bytes.Clone(all), crc))
	}
	wantNone(t, "the smallest byte first", binary.LittleEndian.AppendUint32(bytes.Clone(all), right))
	wantPage(t, "the right one", 2, binary.BigEndian.AppendUint32(bytes.Clone(all), right), payload)
}

// A payload may be whatever it likes, a page too.
func TestPagesWithinPages(t *testing.T) {
	inner := plain(1, []byte("inner"))
	for _, payload := range [][]byte{inner, []byte("pag"), inner[:len(inner)-4], inner[len(inner)-4:], append(bytes.Clone(inner), inner...)} {
		b, _ := page.Put(2, payload)
		wantPage(t, "within", 2, b, payload)
	}
}

// The chapter bounds what is put, not what a page is: one that is longer is given as it stands.
func TestGetBeyondMaxPage(t *testing.T) {
	for _, n := range []int{60001, 65535, 65536, 1 << 24} {
		b := plain(1, allValues(n))
		wantPage(t, "a long one", 1, b, allValues(n))
		wantNone(t, "a long one, cut off", b[:len(b)-1])
	}
}

// At random

// isPage tells by the chapter's words whether b is a page of that kind, just that.
func isPage(kind int, b []byte) bool {
	return len(b) >= 12 && string(b[:3]) == "pag" && kind >= 1 && kind <= 3 && int(b[3]) == kind &&
		int64(binary.BigEndian.Uint32(b[4:])) == int64(len(b)-12) &&
		binary.BigEndian.Uint32(b[len(b)-4:]) == crc32.ChecksumIEEE(b[:len(b)-4])
}

// damaged answers what may stand in a file where a page should: it, or what became of it.
func damaged(r *rand.Rand, b []byte) []byte {
	switch r.Intn(8) {
	case 0:
		b[r.Intn(len(b))] ^= 1 << r.Intn(8)
	case 1:
		return b[:r.Intn(len(b))]
	case 2:
		return b[r.Intn(len(b)):]
	case 3:
		return append(b, b[:r.Intn(len(b))]...)
	case 4:
		clear(b[r.Intn(len(b)):])
	case 5:
		return summed(ahead("pag", byte(r.Intn(5)), uint32(r.Intn(4))), make([]byte, r.Intn(4)))
	}
	return b
}

func TestGetAtRandom(t *testing.T) {
	r := rand.New(rand.NewSource(5))
	right, wrong := 0, 0
	for range 20000 {
		payload := make([]byte, r.Intn(80))
		r.Read(payload)
		b := damaged(r, plain(1+r.Intn(3), payload))
		for kind := 0; kind <= 4; kind++ {
			if isPage(kind, b) {
				right++
				wantPage(t, "at random", kind, b, b[8:len(b)-4])
			} else {
				wrong++
				wantDamaged(t, "at random", kind, b)
			}
		}
	}
	if right == 0 || wrong == 0 {
		t.Error("nothing was right, or nothing wrong:", right, wrong)
	}
}

// The rules

// roomy answers b with spare room behind it, and all of it, to be looked at later.
func roomy(b []byte) (part, whole []byte) {
	whole = append(bytes.Clone(b), bytes.Repeat([]byte{0xaa}, 100)...)
	return whole[:len(b)], whole
}

func scribble(b []byte) {
	b = b[:cap(b)]
	for n := range b {
		b[n] = 0x55
	}
}

// wantOwnMemory fails, if a call changes what it is given, or its answers share memory with that or each other (R3).
func wantOwnMemory(t *testing.T, what string, given []byte, call func(b []byte) ([]byte, api.Errno)) {
	t.Helper()
	part, whole := roomy(given)
	before := bytes.Clone(whole)
	first, e := call(part)
	second, _ := call(part)
	want := bytes.Clone(second)
	scribble(first)
	if !bytes.Equal(whole, before) {
		t.Errorf("%s: %d bytes, or their spare room, were changed", what, len(given))
	}
	scribble(part)
	if !bytes.Equal(second, want) {
		t.Errorf("%s of %d bytes, %d: an answer shares memory", what, len(given), e)
	}
}

func TestMemory(t *testing.T) {
	put := func(b []byte) ([]byte, api.Errno) { return page.Put(1, b) }
	get := func(b []byte) ([]byte, api.Errno) { return page.Get(1, b) }
	for _, n := range []int{0, 1, 3, 60000, 60001} {
		wantOwnMemory(t, "Put", allValues(n), put)
		wantOwnMemory(t, "Get", plain(1, allValues(n)), get)
		wantOwnMemory(t, "Get of garbage", allValues(n), get)
	}
	wantOwnMemory(t, "Get of another kind", plain(2, allValues(3)), get)
}

// R2: a page's spare room, though a part of it stands there, isn't a part of what is asked.
func TestSpareRoom(t *testing.T) {
	b := plain(1, allValues(20))
	for cut := range len(b) {
		wantNone(t, "all of it in the spare room", b[:cut])
	}
	part, _ := roomy(b)
	wantPage(t, "garbage in the spare room", 1, part, allValues(20))
}

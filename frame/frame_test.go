package frame_test

import (
	"bytes"
	"crypto/sha256"
	"encoding/binary"
	"hash/crc32"
	"math"
	"math/rand"
	"strings"
	"testing"

	"cubby/api"
	"cubby/frame"
)

// head answers a head with a CRC that is right, whatever it tells.
func head(mark string, kind byte, length uint32, digest [32]byte) []byte {
	b := append([]byte(mark), kind)
	b = binary.BigEndian.AppendUint32(b, length)
	b = binary.BigEndian.AppendUint32(b, crc32.ChecksumIEEE(b))
	return append(b, digest[:]...)
}

// plain answers a frame, made by the library, which tests may use.
func plain(kind int, payload []byte) []byte {
	return append(head("cub", byte(kind), uint32(len(payload)), sha256.Sum256(payload)), payload...)
}

// allValues answers n bytes, among which all values come by turns.
func allValues(n int) []byte {
	b := make([]byte, n)
	for i := range b {
		b[i] = byte(i*7 + i/256)
	}
	return b
}

func joined(parts ...[]byte) []byte { return bytes.Join(parts, nil) }

// turned answers b with one bit turned.
func turned(b []byte, bit int) []byte {
	c := bytes.Clone(b)
	c[bit/8] ^= 1 << (bit % 8)
	return c
}

func same(a, b []frame.Rec) bool {
	if len(a) != len(b) {
		return false
	}
	for n := range a {
		if a[n].At != b[n].At || a[n].Kind != b[n].Kind || !bytes.Equal(a[n].Payload, b[n].Payload) {
			return false
		}
	}
	return true
}

// wantScan fails, if a scan doesn't find just these records, and the torn rest there.
func wantScan(t *testing.T, what string, b []byte, torn int, want ...frame.Rec) {
	t.Helper()
	got, at := frame.Scan(b)
	if !same(got, want) || at != torn {
		t.Errorf("%s, of %d bytes: %v, torn at %d; want %v, torn at %d", what, len(b), told(got), at, told(want), torn)
	}
}

// told makes records short enough to be looked at.
func told(recs []frame.Rec) []frame.Rec {
	var short []frame.Rec
	for _, r := range recs[:min(len(recs), 8)] {
		r.Payload = r.Payload[:min(len(r.Payload), 16)]
		short = append(short, r)
	}
	return short
}

// P4.1: Frame

func TestFrameByHand(t *testing.T) {
	// The CRCs and digests were worked out by other programs.
	for _, c := range []struct {
		kind    int
		payload string
		want    string
	}{
		{1, "", "cub\x01\x00\x00\x00\x00" + "\xfd\x4a\x00\x5c" +
			"\xe3\xb0\xc4\x42\x98\xfc\x1c\x14\x9a\xfb\xf4\xc8\x99\x6f\xb9\x24\x27\xae\x41\xe4\x64\x9b\x93\x4c\xa4\x95\x99\x1b\x78\x52\xb8\x55"},
		{3, "abc", "cub\x03\x00\x00\x00\x03" + "\x1e\x83\x02\x86" +
			"\xba\x78\x16\xbf\x8f\x01\xcf\xea\x41\x41\x40\xde\x5d\xae\x22\x23\xb0\x03\x61\xa3\x96\x17\x7a\x9c\xb4\x10\xff\x61\xf2\x00\x15\xadabc"},
	} {
		got, e := frame.Frame(c.kind, []byte(c.payload))
		if string(got) != c.want || e != api.OK {
			t.Errorf("Frame(%d, %q): %x, %d, want %x", c.kind, c.payload, got, e, c.want)
		}
	}
	if frame.Head != 44 {
		t.Error("Head:", frame.Head)
	}
}

func TestFrameLengths(t *testing.T) {
	for kind := 1; kind <= 3; kind++ {
		for _, n := range []int{0, 1, 2, 43, 44, 55, 56, 63, 64, 255, 256, 20000, 29999, 30000} {
			payload := allValues(n)
			got, e := frame.Frame(kind, payload)
			if !bytes.Equal(got, plain(kind, payload)) || len(got) != frame.Head+n || e != api.OK {
				t.Errorf("kind %d, %d bytes: %d bytes, %d", kind, n, len(got), e)
			}
		}
	}
	empty, _ := frame.Frame(2, []byte{})
	if none, e := frame.Frame(2, nil); !bytes.Equal(none, empty) || e != api.OK {
		t.Error("nil isn't framed as no bytes are", e)
	}
}

func TestFrameOfWhatIsNoFrame(t *testing.T) {
	want := func(kind, n int, errno api.Errno) {
		t.Helper()
		if got, e := frame.Frame(kind, make([]byte, n)); len(got) != 0 || e != errno {
			t.Errorf("kind %d, %d bytes: %d bytes, %d, want error %d", kind, n, len(got), e, errno)
		}
	}
	for _, kind := range []int{0, 4, 5, -1, -2, 255, 256, 257, math.MinInt, math.MinInt + 1, math.MaxInt} {
		for _, n := range []int{0, 2, 30000, 30001, 65536} {
			want(kind, n, api.ErrArg)
		}
	}
	for kind := 1; kind <= 3; kind++ {
		for _, n := range []int{30001, 30002, 65535, 65536, 1 << 22} {
			want(kind, n, api.ErrLong)
		}
	}
}

// P4.1: Scan

func TestScanOfNothing(t *testing.T) {
	wantScan(t, "nil", nil, 0)
	wantScan(t, "empty", []byte{}, 0)
	for _, s := range []string{"c", "cu", "cub", "cub\x01", "garbage", strings.Repeat("cub", 100), strings.Repeat("x", 44), strings.Repeat("\x00", 500)} {
		wantScan(t, "garbage", []byte(s), 0)
	}
}

func TestScanOfOne(t *testing.T) {
	for kind := 1; kind <= 3; kind++ {
		for _, n := range []int{0, 1, 43, 44, 255, 256, 29999, 30000} {
			b := plain(kind, allValues(n))
			wantScan(t, "one", b, len(b), frame.Rec{At: 0, Kind: kind, Payload: allValues(n)})
		}
	}
}

// A head is right by all of its parts: with any bit of its first twelve bytes turned it isn't one.
func TestScanHeadBits(t *testing.T) {
	first, second := plain(2, []byte("first")), plain(3, []byte("second"))
	at := len(first)
	for bit := range 8 * 12 {
		broken := turned(first, bit)
		wantScan(t, "broken head alone", broken, 0)
		wantScan(t, "broken head first", joined(broken, second), at+len(second), frame.Rec{At: at, Kind: 3, Payload: []byte("second")})
		wantScan(t, "broken head last", joined(second, broken), len(second), frame.Rec{At: 0, Kind: 3, Payload: []byte("second")})
	}
}

// A head that isn't right though its CRC is.
func TestScanHeadsWithRightCRC(t *testing.T) {
	payload := allValues(200)
	digest := sha256.Sum256(payload)
	last := plain(1, []byte("last"))
	for what, h := range map[string][]byte{
		"kind 0":           head("cub", 0, 200, digest),
		"kind 4":           head("cub", 4, 200, digest),
		"kind 255":         head("cub", 255, 200, digest),
		"length 30001":     head("cub", 1, 30001, digest),
		"length 2^31":      head("cub", 1, 1<<31, digest),
		"length 2^31 + 9":  head("cub", 1, 1<<31+9, digest),
		"length 2^32 - 1":  head("cub", 1, 1<<32-1, digest),
		"another mark":     head("pag", 1, 200, digest),
		"the mark's begin": head("cuc", 1, 200, digest),
		"great letters":    head("CUB", 1, 200, digest),
	} {
		b := joined(h, payload)
		wantScan(t, what, b, 0)
		wantScan(t, what+", and one", joined(b, last), len(b)+len(last), frame.Rec{At: len(b), Kind: 1, Payload: []byte("last")})
	}
	long := allValues(30001)
	b := joined(head("cub", 2, 30001, sha256.Sum256(long)), long)
	wantScan(t, "a payload that is too long, all there", b, 0)
}

// A payload, or its digest, that is damaged: it is no record, and nothing in it is.
func TestScanDamagedPayloads(t *testing.T) {
	inner := plain(1, []byte("inner"))
	first, second := plain(2, inner), plain(3, []byte("second"))
	for bit := 8 * 12; bit < 8*len(first); bit++ {
		broken := turned(first, bit)
		at := len(broken)
		wantScan(t, "damaged alone", broken, at)
		wantScan(t, "damaged first", joined(broken, second), at+len(second), frame.Rec{At: at, Kind: 3, Payload: []byte("second")})
		wantScan(t, "damaged last", joined(second, broken), len(second)+at, frame.Rec{At: 0, Kind: 3, Payload: []byte("second")})
	}
	broken := turned(first, 8*len(first)-1)
	wantScan(t, "damaged, and a rest", joined(broken, []byte("rest")), len(broken))
	none := turned(plain(1, nil), 8*20)
	wantScan(t, "a wrong digest of no bytes", none, len(none))
}

func TestScanFramesWithinFrames(t *testing.T) {
	inner := plain(1, []byte("inner"))
	outer := plain(2, inner)
	wantScan(t, "within a whole one", outer, len(outer), frame.Rec{At: 0, Kind: 2, Payload: inner})
	broken := turned(outer, 8*5)
	wantScan(t, "behind a broken head", broken, len(outer), frame.Rec{At: frame.Head, Kind: 1, Payload: []byte("inner")})
}

// A right head whose payload isn't all there tears all behind it, whatever that is.
func TestScanTornPayloads(t *testing.T) {
	ahead, behind := plain(1, []byte("ahead")), plain(3, []byte("behind"))
	record := frame.Rec{At: 0, Kind: 1, Payload: []byte("ahead")}
	for _, length := range []uint32{1, 2, 255, 30000} {
		h := head("cub", 2, length, sha256.Sum256(nil))
		wantScan(t, "no payload", h, 0)
		wantScan(t, "no payload behind one", joined(ahead, h), len(ahead), record)
	}
	h := head("cub", 2, 30000, sha256.Sum256(nil))
	wantScan(t, "frames where the payload should be", joined(ahead, h, behind, behind), len(ahead), record)
	wantScan(t, "one byte less", joined(h, make([]byte, 29999)), 0)
	all := joined(h, make([]byte, 30000))
	wantScan(t, "not a byte less, but damaged", all, len(all))
	wantScan(t, "torn behind garbage", joined(ahead, []byte("garbage"), h, behind), len(ahead)+len("garbage"), record)
}

func TestScanGarbage(t *testing.T) {
	a, b := plain(1, []byte("a")), plain(2, nil)
	for _, s := range []string{
		"x", "c", "cu", "cub", "cubcub", "cubcu", "\x00", "cub\x01", "cub\x01\x00\x00\x00\x00", "ccuub",
		strings.Repeat("cub", 50), strings.Repeat("g", 43), strings.Repeat("g", 44), strings.Repeat("g", 45), strings.Repeat("\xff", 40000),
	} {
		g, n := []byte(s), len(s)
		first := frame.Rec{At: n, Kind: 1, Payload: []byte("a")}
		wantScan(t, "ahead", joined(g, a), n+len(a), first)
		wantScan(t, "ahead and behind", joined(g, a, g), n+len(a), first)
		second := frame.Rec{At: n + len(a), Kind: 2}
		wantScan(t, "ahead of two and behind", joined(g, a, b, g), n+len(a)+len(b), first, second)
		second.At += n
		wantScan(t, "ahead and between", joined(g, a, g, b), 2*n+len(a)+len(b), first, second)
		wantScan(t, "everywhere", joined(g, a, g, b, g), 2*n+len(a)+len(b), first, second)
	}
}

// Garbage, and then too few bytes for a head, are one rest.
func TestScanGarbageAndATornHead(t *testing.T) {
	a := plain(1, []byte("a"))
	record := frame.Rec{At: 0, Kind: 1, Payload: []byte("a")}
	for n := range frame.Head {
		wantScan(t, "torn head", joined(a, a[:n]), len(a), record)
		wantScan(t, "garbage and torn head", joined(a, []byte("garbage"), a[:n]), len(a), record)
	}
	wantScan(t, "a head, all there", joined(a, []byte("garbage"), a[:frame.Head]), len(a)+len("garbage"), record)
}

// P4.2

// several answers frames one behind the other, and what they are to be scanned as.
func several(lengths ...int) ([]byte, []frame.Rec) {
	var all []byte
	var recs []frame.Rec
	for n, length := range lengths {
		r := frame.Rec{At: len(all), Kind: 1 + n%3, Payload: allValues(length)}
		recs = append(recs, r)
		b, _ := frame.Frame(r.Kind, r.Payload)
		all = append(all, b...)
	}
	return all, recs
}

func TestFramesAsTheyWere(t *testing.T) {
	for _, lengths := range [][]int{{}, {0}, {0, 0, 0}, {1, 2, 3, 4}, {30000, 0, 30000, 44, 43}, {20000, 20000, 20000}, make([]int, 1000)} {
		all, recs := several(lengths...)
		wantScan(t, "as they were", all, len(all), recs...)
	}
}

func TestFramesCutOff(t *testing.T) {
	all, recs := several(0, 5, 100, 0, 44, 0)
	for cut := range len(all) + 1 {
		whole, torn := 0, cut
		for n, r := range recs {
			if end := r.At + frame.Head + len(r.Payload); end <= cut {
				whole = n + 1
			} else {
				torn = r.At
				break
			}
		}
		wantScan(t, "cut off", all[:cut], torn, recs[:whole]...)
	}
	long, _ := several(30000, 30000)
	for _, cut := range []int{30044 + 44, 30044 + 45, len(long) - 1} {
		wantScan(t, "a long one, cut off", long[:cut], 30044, frame.Rec{At: 0, Kind: 1, Payload: allValues(30000)})
	}
}

// Both promises, at random

// isHead tells whether a right head stands there, by the chapter's words.
func isHead(b []byte, at int) bool {
	if at+44 > len(b) {
		return false
	}
	kind, length := b[at+3], binary.BigEndian.Uint32(b[at+4:])
	return bytes.HasPrefix(b[at:], []byte("cub")) && kind >= 1 && kind <= 3 && length <= 30000 &&
		binary.BigEndian.Uint32(b[at+8:]) == crc32.ChecksumIEEE(b[at:at+8])
}

// model scans from a place on, by the chapter's words.
func model(b []byte, from int) ([]frame.Rec, int) {
	at := from
	for at < len(b) && !isHead(b, at) {
		at++
	}
	if at == len(b) {
		return nil, from
	}
	end := at + 44 + int(binary.BigEndian.Uint32(b[at+4:]))
	if end > len(b) {
		return nil, at
	}
	rest, torn := model(b, end)
	if sha256.Sum256(b[at+44:end]) != [32]byte(b[at+12:at+44]) {
		return rest, torn
	}
	return append([]frame.Rec{{At: at, Kind: int(b[at+3]), Payload: b[at+44 : end]}}, rest...), torn
}

// piece answers what may stand in a file that was damaged: frames, broken ones, parts of them, garbage.
func piece(r *rand.Rand) []byte {
	payload := make([]byte, r.Intn(60))
	r.Read(payload)
	b := plain(1+r.Intn(3), payload)
	if r.Intn(4) == 0 {
		b = plain(1+r.Intn(3), joined(payload, b))
	}
	switch r.Intn(9) {
	case 0:
		return turned(b, r.Intn(8*len(b)))
	case 1:
		return turned(b, r.Intn(8*12))
	case 2:
		return b[:r.Intn(len(b))]
	case 3:
		return b[r.Intn(len(b)):]
	case 4:
		return payload
	case 5:
		return head("cub", byte(r.Intn(5)), uint32(r.Intn(200)), sha256.Sum256(nil))
	}
	return b
}

func TestScanAtRandom(t *testing.T) {
	r := rand.New(rand.NewSource(4))
	torn, whole := 0, 0
	for range 20000 {
		var b []byte
		for range r.Intn(8) {
			b = append(b, piece(r)...)
		}
		recs, at := model(b, 0)
		wantScan(t, "at random", b, at, recs...)
		whole += len(recs)
		torn += len(b) - at
	}
	if torn == 0 || whole == 0 {
		t.Error("nothing was torn, or nothing whole:", torn, whole)
	}
}

// R1: every scan ends, soon too.
func TestScanOfMany(t *testing.T) {
	const size = 1 << 22
	for _, s := range []string{"\x00", "cub", "c", "cub\x01\x00\x00\x00\x01"} {
		wantScan(t, "many bytes", bytes.Repeat([]byte(s), size/len(s)), 0)
	}
	all := bytes.Repeat(plain(1, nil), size/frame.Head)
	recs, torn := frame.Scan(all)
	if len(recs) != size/frame.Head || torn != len(all) {
		t.Error("many frames:", len(recs), torn)
	}
}

// R3

// roomy answers b with spare room behind it, and all of it, to be looked at later.
func roomy(b []byte) (part, whole []byte) {
	whole = append(bytes.Clone(b), bytes.Repeat([]byte{0xaa}, 100)...)
	return whole[:len(b)], whole
}

func scribble(b []byte) {
	b = b[:cap(b)]
	for n := range b {
		b[n] = 0x55
	}
}

func TestFrameMemory(t *testing.T) {
	for _, n := range []int{0, 3, 30000, 30001} {
		part, whole := roomy(allValues(n))
		before := bytes.Clone(whole)
		first, _ := frame.Frame(1, part)
		second, _ := frame.Frame(1, part)
		want := bytes.Clone(second)
		scribble(first)
		if !bytes.Equal(whole, before) {
			t.Errorf("%d bytes, or their spare room, were changed", n)
		}
		scribble(part)
		if !bytes.Equal(second, want) {
			t.Errorf("of %d bytes: an answer shares memory", n)
		}
	}
}

func TestScanMemory(t *testing.T) {
	all, recs := several(3, 0, 5, 100)
	part, whole := roomy(joined(all, []byte("torn")))
	before := bytes.Clone(whole)
	first, _ := frame.Scan(part)
	second, _ := frame.Scan(part)
	scribble(first[0].Payload)
	scribble(first[1].Payload)
	if !same(first[2:], recs[2:]) {
		t.Error("two payloads share memory")
	}
	for _, r := range first[:cap(first)] {
		scribble(r.Payload)
	}
	clear(first[:cap(first)])
	if !bytes.Equal(whole, before) {
		t.Error("a scan, or what it answered, changed what it was given")
	}
	scribble(part)
	if !same(second, recs) {
		t.Error("a scan's answer shares memory")
	}
}

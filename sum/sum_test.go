package sum_test

import (
	"bytes"
	"crypto/sha256"
	"encoding/hex"
	"hash/crc32"
	"math/rand"
	"strings"
	"testing"

	"cubby/sum"
)

// edges are lengths about where a block of SHA-256, or the room for its length, ends.
func edges() []int {
	return []int{0, 1, 54, 55, 56, 57, 62, 63, 64, 65, 118, 119, 120, 121, 127, 128, 129, 183, 184, 191, 192, 20000, 30000}
}

// allValues answers n bytes, among which all values come by turns.
func allValues(n int) []byte {
	b := make([]byte, n)
	for i := range b {
		b[i] = byte(i*7 + i/256)
	}
	return b
}

func wantCRC(t *testing.T, what string, b []byte) {
	t.Helper()
	if got, want := sum.CRC(b), crc32.ChecksumIEEE(b); got != want {
		t.Errorf("CRC of %s: %08x, want %08x", what, got, want)
	}
}

func wantDigest(t *testing.T, what string, b []byte) {
	t.Helper()
	if got, want := sum.Digest(b), sha256.Sum256(b); got != want {
		t.Errorf("Digest of %s: %x, want %x", what, got, want)
	}
}

// both holds the sums against those of the library, which tests may use.
func both(t *testing.T, what string, b []byte) {
	t.Helper()
	wantCRC(t, what, b)
	wantDigest(t, what, b)
}

// P2.1

func TestCRCKnown(t *testing.T) {
	for s, want := range map[string]uint32{
		"":          0,
		"\x00":      0xd202ef8d,
		"\xff":      0xff000000,
		"a":         0xe8b7be43,
		"abc":       0x352441c2,
		"123456789": 0xcbf43926,
		"The quick brown fox jumps over the lazy dog": 0x414fa339,
		"\x00\x00\x00\x00": 0x2144df1c,
		"\xff\xff\xff\xff": 0xffffffff,
	} {
		if got := sum.CRC([]byte(s)); got != want {
			t.Errorf("CRC(%q): %08x, want %08x", s, got, want)
		}
	}
	if got := sum.CRC(nil); got != 0 {
		t.Errorf("CRC(nil): %08x", got)
	}
}

// byWords follows the chapter's sentence in the slowest way, bit by bit.
func byWords(b []byte) uint32 {
	var bits [32]bool
	for i := range bits {
		bits[i] = true
	}
	for _, c := range b {
		for i := range 8 {
			bits[i] = bits[i] != (c>>i&1 == 1)
		}
		for range 8 {
			lowest := bits[0]
			copy(bits[:], bits[1:])
			bits[31] = false
			for i := range bits {
				bits[i] = bits[i] != (lowest && 0xedb88320>>i&1 == 1)
			}
		}
	}
	var crc uint32
	for i, one := range bits {
		if !one {
			crc |= 1 << i
		}
	}
	return crc
}

func TestCRCByWords(t *testing.T) {
	for n := range 70 {
		b := allValues(n)
		if got, want := sum.CRC(b), byWords(b); got != want {
			t.Errorf("CRC of %d bytes: %08x, want %08x", n, got, want)
		}
	}
}

// P2.2

func TestDigestKnown(t *testing.T) {
	for s, want := range map[string]string{
		"":    "e3b0c44298fc1c149afbf4c8996fb92427ae41e4649b934ca495991b7852b855",
		"abc": "ba7816bf8f01cfea414140de5dae2223b00361a396177a9cb410ff61f20015ad",
		"abcdbcdecdefdefgefghfghighijhijkijkljklmklmnlmnomnopnopq":                                                         "248d6a61d20638b8e5c026930c3e6039a33ce45964ff2167f6ecedd419db06c1",
		"abcdefghbcdefghicdefghijdefghijkefghijklfghijklmghijklmnhijklmnoijklmnopjklmnopqklmnopqrlmnopqrsmnopqrstnopqrstu": "cf5b16a778af8380036ce59e7b0492370b249b11e8f07a51afac45037afee9d1",
		strings.Repeat("a", 1000000): "cdc76e5c9914fb9281a1c7e284d73e67f1809a48a497200e046d39ccc7112cd0",
	} {
		d := sum.Digest([]byte(s))
		if got := sum.Hex(d); got != want {
			t.Errorf("Hex(Digest) of %d bytes: %s, want %s", len(s), got, want)
		}
		if got := hex.EncodeToString(d[:]); got != want {
			t.Errorf("Digest of %d bytes: %s, want %s", len(s), got, want)
		}
	}
	if sum.Digest(nil) != sum.Digest([]byte{}) {
		t.Error("Digest of nil is not that of no bytes")
	}
}

func TestHexOfAllValues(t *testing.T) {
	for first := 0; first < 256; first += 16 {
		var d [32]byte
		for i := range d {
			d[i] = byte(first + i)
		}
		if got, want := sum.Hex(d), hex.EncodeToString(d[:]); got != want {
			t.Errorf("Hex from %d on: %s, want %s", first, got, want)
		}
	}
	if got := sum.Hex([32]byte{}); got != strings.Repeat("0", 64) {
		t.Errorf("Hex of zeros: %s", got)
	}
	var d [32]byte
	d[0], d[31] = 0xab, 0x0f
	if got := sum.Hex(d); got != "ab"+strings.Repeat("0", 60)+"0f" {
		t.Errorf("Hex of ab .. 0f: %s", got)
	}
}

// Both promises

func TestAllLengths(t *testing.T) {
	for n := range 400 {
		both(t, "all values", allValues(n))
		both(t, "zeros", make([]byte, n))
		both(t, "ff", bytes.Repeat([]byte{0xff}, n))
	}
	for _, n := range edges() {
		both(t, "an edge", allValues(n))
	}
}

func TestAllSingleBytes(t *testing.T) {
	for c := range 256 {
		both(t, "one byte", []byte{byte(c)})
		both(t, "two bytes", []byte{0, byte(c)})
		both(t, "a byte at a block's end", append(make([]byte, 63), byte(c)))
	}
}

func TestManyBytes(t *testing.T) {
	r := rand.New(rand.NewSource(2))
	for range 500 {
		b := make([]byte, r.Intn(3000))
		r.Read(b)
		both(t, "bytes at random", b)
	}
	big := make([]byte, 1<<22)
	r.Read(big)
	both(t, "a whole disk", big)
}

// A bit that is turned turns both sums, wherever it stands.
func TestOneBitTurned(t *testing.T) {
	for _, n := range []int{1, 55, 56, 63, 64, 119, 120} {
		b := allValues(n)
		crc, digest := sum.CRC(b), sum.Digest(b)
		for i := range 8 * n {
			b[i/8] ^= 1 << (i % 8)
			if sum.CRC(b) == crc {
				t.Errorf("CRC of %d bytes is the same without bit %d", n, i)
			}
			if sum.Digest(b) == digest {
				t.Errorf("Digest of %d bytes is the same without bit %d", n, i)
			}
			b[i/8] ^= 1 << (i % 8)
		}
	}
}

// The rules

// R2: the same bytes have the same sums, wherever they stand and whatever was asked ahead.
func TestBytesAlone(t *testing.T) {
	room := allValues(600)
	for _, n := range edges() {
		if n > 300 {
			continue
		}
		for at := range 9 {
			piece := room[at : at+n]
			alone := bytes.Clone(piece)
			if sum.CRC(piece) != sum.CRC(alone) || sum.Digest(piece) != sum.Digest(alone) {
				t.Errorf("%d bytes from %d on have other sums than by themselves", n, at)
			}
		}
	}
}

// R3: what is handed in, and its spare room, is left as it is.
func TestLeftAsItIs(t *testing.T) {
	for _, n := range edges() {
		room := bytes.Repeat([]byte{0xa5}, n+200)
		copy(room, allValues(n))
		before := bytes.Clone(room)
		sum.CRC(room[:n])
		sum.Digest(room[:n])
		if !bytes.Equal(room, before) {
			t.Errorf("%d bytes, or their spare room, were changed", n)
		}
	}
}

package sum

import (
	"bytes"
	"encoding/binary"
	"math/big"
	"testing"
)

// rest answers bytes none of which is 0 or 128, so that they can't be taken for padding.
func rest(n int) []byte { return bytes.Repeat([]byte{0x17}, n) }

// The length's greater bytes are seen only of inputs that are too long for a test by Digest.
func TestLastBlocks(t *testing.T) {
	for n := range blockSize {
		for _, bits := range []uint64{uint64(n) * 8, 1<<32 + uint64(n)*8, (1<<31 - 1) * 8, 0x0123456789abcdef} {
			padded, end := lastBlocks(rest(n), bits)
			want := append(rest(n), 0x80)
			for len(want)%blockSize != blockSize-lengthSize {
				want = append(want, 0)
			}
			want = binary.BigEndian.AppendUint64(want, bits)
			if !bytes.Equal(padded[:end], want) {
				t.Errorf("%d bytes, %d bits: %x, want %x", n, bits, padded[:end], want)
			}
		}
	}
}

func primes(n int) []int64 {
	var found []int64
	for p := int64(2); len(found) < n; p++ {
		if big.NewInt(p).ProbablyPrime(0) {
			found = append(found, p)
		}
	}
	return found
}

// root answers the first 32 bits of the fraction of p's root: the greatest word w such that
// (w + some whole number times 2^32) to the power of degree isn't above p times 2^(32 degree).
func root(p int64, degree int64) uint32 {
	limit := new(big.Int).Lsh(big.NewInt(p), uint(32*degree))
	low, high := big.NewInt(0), new(big.Int).Lsh(big.NewInt(p), 32)
	for low.Cmp(high) < 0 {
		middle := new(big.Int).Add(low, high)
		middle.Add(middle, big.NewInt(1)).Rsh(middle, 1)
		if new(big.Int).Exp(middle, big.NewInt(degree), nil).Cmp(limit) <= 0 {
			low = middle
		} else {
			high = middle.Sub(middle, big.NewInt(1))
		}
	}
	return uint32(low.Uint64())
}

func TestWordsAreRoots(t *testing.T) {
	for i, p := range primes(64) {
		if want := root(p, 3); roundWords[i] != want {
			t.Errorf("word %d: %08x, want %08x", i, roundWords[i], want)
		}
	}
	for i, p := range primes(8) {
		if want := root(p, 2); firstState()[i] != want {
			t.Errorf("first state %d: %08x, want %08x", i, firstState()[i], want)
		}
	}
}

package sum

const (
	blockSize = 64
	// lengthSize is how many bytes tell, at the end of the last block, how many bits there were.
	lengthSize = 8
)

// roundWords are the first 32 bits of the fractions of the cube roots of the first 64 primes.
var roundWords = [64]uint32{
	0x428a2f98, 0x71374491, 0xb5c0fbcf, 0xe9b5dba5, 0x3956c25b, 0x59f111f1, 0x923f82a4, 0xab1c5ed5,
	0xd807aa98, 0x12835b01, 0x243185be, 0x550c7dc3, 0x72be5d74, 0x80deb1fe, 0x9bdc06a7, 0xc19bf174,
	0xe49b69c1, 0xefbe4786, 0x0fc19dc6, 0x240ca1cc, 0x2de92c6f, 0x4a7484aa, 0x5cb0a9dc, 0x76f988da,
	0x983e5152, 0xa831c66d, 0xb00327c8, 0xbf597fc7, 0xc6e00bf3, 0xd5a79147, 0x06ca6351, 0x14292967,
	0x27b70a85, 0x2e1b2138, 0x4d2c6dfc, 0x53380d13, 0x650a7354, 0x766a0abb, 0x81c2c92e, 0x92722c85,
	0xa2bfe8a1, 0xa81a664b, 0xc24b8b70, 0xc76c51a3, 0xd192e819, 0xd6990624, 0xf40e3585, 0x106aa070,
	0x19a4c116, 0x1e376c08, 0x2748774c, 0x34b0bcb5, 0x391c0cb3, 0x4ed8aa4a, 0x5b9cca4f, 0x682e6ff3,
	0x748f82ee, 0x78a5636f, 0x84c87814, 0x8cc70208, 0x90befffa, 0xa4506ceb, 0xbef9a3f7, 0xc67178f2,
}

// firstState is the first 32 bits of the fractions of the square roots of the first 8 primes.
func firstState() [8]uint32 {
	return [8]uint32{
		0x6a09e667, 0xbb67ae85, 0x3c6ef372, 0xa54ff53a,
		0x510e527f, 0x9b05688c, 0x1f83d9ab, 0x5be0cd19,
	}
}

// rotated turns a word to the right, by 1 to 31 bits.
func rotated(x uint32, n uint) uint32 { return x>>n | x<<(32-n) }

// scheduled makes the words of all rounds of a block, which b begins with.
func scheduled(b []byte) [64]uint32 {
	var words [64]uint32
	for i := range 16 {
		words[i] = uint32(b[4*i])<<24 | uint32(b[4*i+1])<<16 | uint32(b[4*i+2])<<8 | uint32(b[4*i+3])
	}
	for i := 16; i < len(words); i++ {
		early, late := words[i-15], words[i-2]
		early = rotated(early, 7) ^ rotated(early, 18) ^ early>>3
		late = rotated(late, 17) ^ rotated(late, 19) ^ late>>10
		words[i] = words[i-16] + early + words[i-7] + late
	}
	return words
}

// turned answers the state behind a block.
func turned(state [8]uint32, words [64]uint32) [8]uint32 {
	a, b, c, d := state[0], state[1], state[2], state[3]
	e, f, g, h := state[4], state[5], state[6], state[7]
	for i := range words {
		choice := e&f ^ ^e&g
		low := h + (rotated(e, 6) ^ rotated(e, 11) ^ rotated(e, 25)) + choice + roundWords[i] + words[i]
		majority := a&b ^ a&c ^ b&c
		high := (rotated(a, 2) ^ rotated(a, 13) ^ rotated(a, 22)) + majority
		a, b, c, d, e, f, g, h = low+high, a, b, c, d+low, e, f, g
	}
	for i, x := range [8]uint32{a, b, c, d, e, f, g, h} {
		state[i] += x
	}
	return state
}

// lastBlocks pads what is left behind the whole blocks; it answers where the padded bytes
// end, too, since a rest that leaves no room for the length takes a block more.
func lastBlocks(rest []byte, bits uint64) ([2 * blockSize]byte, int) {
	var padded [2 * blockSize]byte
	copy(padded[:], rest)
	padded[len(rest)] = 0x80
	end := blockSize
	if len(rest)+1+lengthSize > blockSize {
		end += blockSize
	}
	for i := range lengthSize {
		padded[end-1-i] = byte(bits >> (8 * i))
	}
	return padded, end
}

// told answers the state's bytes, the greatest of each word first.
func told(state [8]uint32) [32]byte {
	var d [32]byte
	for i, x := range state {
		d[4*i] = byte(x >> 24)
		d[4*i+1] = byte(x >> 16)
		d[4*i+2] = byte(x >> 8)
		d[4*i+3] = byte(x)
	}
	return d
}

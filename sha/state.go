package sha

import (
	"math/bits"

	"towline/api"
)

const (
	blockSize = 64 // bytes of a block
	sizeSize  = 8  // bytes of the size, at the end of the last block
)

// state is where a sum has got to. Its calls leave it as it is and answer the next one.
type state [8]uint32

// first: of the square roots of the first 8 primes, the first 32 bits behind the point.
var first = [8]uint32{
	0x6a09e667, 0xbb67ae85, 0x3c6ef372, 0xa54ff53a, 0x510e527f, 0x9b05688c, 0x1f83d9ab, 0x5be0cd19,
}

// rounds: of the cube roots of the first 64 primes, the first 32 bits behind the point.
var rounds = [64]uint32{
	0x428a2f98, 0x71374491, 0xb5c0fbcf, 0xe9b5dba5, 0x3956c25b, 0x59f111f1, 0x923f82a4, 0xab1c5ed5,
	0xd807aa98, 0x12835b01, 0x243185be, 0x550c7dc3, 0x72be5d74, 0x80deb1fe, 0x9bdc06a7, 0xc19bf174,
	0xe49b69c1, 0xefbe4786, 0x0fc19dc6, 0x240ca1cc, 0x2de92c6f, 0x4a7484aa, 0x5cb0a9dc, 0x76f988da,
	0x983e5152, 0xa831c66d, 0xb00327c8, 0xbf597fc7, 0xc6e00bf3, 0xd5a79147, 0x06ca6351, 0x14292967,
	0x27b70a85, 0x2e1b2138, 0x4d2c6dfc, 0x53380d13, 0x650a7354, 0x766a0abb, 0x81c2c92e, 0x92722c85,
	0xa2bfe8a1, 0xa81a664b, 0xc24b8b70, 0xc76c51a3, 0xd192e819, 0xd6990624, 0xf40e3585, 0x106aa070,
	0x19a4c116, 0x1e376c08, 0x2748774c, 0x34b0bcb5, 0x391c0cb3, 0x4ed8aa4a, 0x5b9cca4f, 0x682e6ff3,
	0x748f82ee, 0x78a5636f, 0x84c87814, 0x8cc70208, 0x90befffa, 0xa4506ceb, 0xbef9a3f7, 0xc67178f2,
}

// taken: the state behind one more block.
func (s state) taken(block [blockSize]byte) state {
	words := spread(block)
	// Eight names and not a second state: the words move down in every round, and an array's would have to be copied each time.
	a, b, c, d, e, f, g, h := s[0], s[1], s[2], s[3], s[4], s[5], s[6], s[7]
	for i := range len(words) {
		one := h + turned(e, 6, 11, 25) + (e&f ^ ^e&g) + rounds[i] + words[i]
		two := turned(a, 2, 13, 22) + (a&b ^ a&c ^ b&c)
		a, b, c, d, e, f, g, h = one+two, a, b, c, d+one, e, f, g
	}
	t := state{a, b, c, d, e, f, g, h}
	for i := range len(t) {
		t[i] += s[i]
	}
	return t
}

// spread: the words of all rounds: a block's sixteen, and those that come from them.
func spread(block [blockSize]byte) [64]uint32 {
	var words [64]uint32
	for i := range len(block) {
		words[i/4] = words[i/4]<<8 + uint32(block[i])
	}
	for i := range len(words) - 16 {
		x, y := words[i+1], words[i+14]
		x = bits.RotateLeft32(x, -7) ^ bits.RotateLeft32(x, -18) ^ x>>3
		y = bits.RotateLeft32(y, -17) ^ bits.RotateLeft32(y, -19) ^ y>>10
		words[i+16] = words[i] + x + words[i+9] + y
	}
	return words
}

// turned: a word turned right by each of so many bits, the three held together.
func turned(x uint32, one, two, three int) uint32 {
	return bits.RotateLeft32(x, -one) ^ bits.RotateLeft32(x, -two) ^ bits.RotateLeft32(x, -three)
}

// closed: the state behind the last bytes (so many stand in the block), a bit that is 1, noughts, and the size of all in bits.
func (s state) closed(block [blockSize]byte, filled int, size uint64) state {
	clear(block[filled:])
	block[filled] = 0x80
	if filled >= blockSize-sizeSize {
		s = s.taken(block)
		clear(block[:])
	}
	for i := range sizeSize {
		block[blockSize-1-i] = byte(8 * size >> (8 * i))
	}
	return s.taken(block)
}

// id: the state's bytes, each word's highest first.
func (s state) id() api.ID {
	var id api.ID
	for i := range len(id) {
		id[i] = byte(s[i/4] >> (24 - 8*(i%4)))
	}
	return id
}

package sponge

import "burgage/api"

// state has the words A[x, y], each at the place x + 5y.
type state [25]uint64

// roundWords has the words of the rounds.
var roundWords = [...]uint64{
	0x0000000000000001, 0x0000000000008082, 0x800000000000808a, 0x8000000080008000,
	0x000000000000808b, 0x0000000080000001, 0x8000000080008081, 0x8000000000008009,
	0x000000000000008a, 0x0000000000000088, 0x0000000080008009, 0x000000008000000a,
	0x000000008000808b, 0x800000000000008b, 0x8000000000008089, 0x8000000000008003,
	0x8000000000008002, 0x8000000000000080, 0x000000000000800a, 0x800000008000000a,
	0x8000000080008081, 0x8000000000008080, 0x0000000080000001, 0x8000000080008008,
}

// mixed returns s after all rounds.
func mixed(s state) state {
	for _, k := range roundWords {
		s = round(s, k)
	}
	return s
}

// round returns s after a round with the word k. The places that words come from, and the numbers of bits by which they are rotated, are constants written out, which is quicker than finding them in tables: much of the program's time is spent here.
func round(s state, k uint64) (t state) {
	// C and D of step 1
	c0 := s[0] ^ s[5] ^ s[10] ^ s[15] ^ s[20]
	c1 := s[1] ^ s[6] ^ s[11] ^ s[16] ^ s[21]
	c2 := s[2] ^ s[7] ^ s[12] ^ s[17] ^ s[22]
	c3 := s[3] ^ s[8] ^ s[13] ^ s[18] ^ s[23]
	c4 := s[4] ^ s[9] ^ s[14] ^ s[19] ^ s[24]
	d0 := c4 ^ left(c1, 1)
	d1 := c0 ^ left(c2, 1)
	d2 := c1 ^ left(c3, 1)
	d3 := c2 ^ left(c4, 1)
	d4 := c3 ^ left(c0, 1)
	// Step 4 needs no more than one row at a time of what steps 1 to 3 make.
	t[0], t[1], t[2], t[3], t[4] = row(s[0]^d0, left(s[6]^d1, 44), left(s[12]^d2, 43), left(s[18]^d3, 21), left(s[24]^d4, 14))
	t[5], t[6], t[7], t[8], t[9] = row(left(s[3]^d3, 28), left(s[9]^d4, 20), left(s[10]^d0, 3), left(s[16]^d1, 45), left(s[22]^d2, 61))
	t[10], t[11], t[12], t[13], t[14] = row(left(s[1]^d1, 1), left(s[7]^d2, 6), left(s[13]^d3, 25), left(s[19]^d4, 8), left(s[20]^d0, 18))
	t[15], t[16], t[17], t[18], t[19] = row(left(s[4]^d4, 27), left(s[5]^d0, 36), left(s[11]^d1, 10), left(s[17]^d2, 15), left(s[23]^d3, 56))
	t[20], t[21], t[22], t[23], t[24] = row(left(s[2]^d2, 62), left(s[8]^d3, 55), left(s[14]^d4, 39), left(s[15]^d0, 41), left(s[21]^d1, 2))
	t[0] ^= k
	return t
}

// left returns w rotated to the left by n bits, which are from 1 to 63.
func left(w uint64, n int) uint64 { return w<<n | w>>(64-n) }

// row returns the words of a row after step 4.
func row(a0, a1, a2, a3, a4 uint64) (uint64, uint64, uint64, uint64, uint64) {
	return a0 ^ a2&^a1, a1 ^ a3&^a2, a2 ^ a4&^a3, a3 ^ a0&^a4, a4 ^ a1&^a0
}

// with returns s with the words of a block added to it.
func with(s state, block []byte) state {
	for i := range blockSize / wordSize {
		s[i] ^= wordOf(block[i*wordSize:])
	}
	return s
}

// wordOf returns the word of the first bytes of b, the least significant one first.
func wordOf(b []byte) uint64 {
	var w uint64
	for i, x := range b[:wordSize] {
		w |= uint64(x) << (8 * i)
	}
	return w
}

// sumOf returns the first words of s as bytes, the least significant one first.
func sumOf(s state) api.Sum {
	var sum api.Sum
	for i := range sum {
		sum[i] = byte(s[i/wordSize] >> (i % wordSize * 8))
	}
	return sum
}

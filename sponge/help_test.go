package sponge_test

import (
	"encoding/binary"
	"math"
	"math/rand"
	"strconv"
	"strings"

	"burgage/api"
)

// words are the words of the rounds, as the chapter has them.
const words = `
0000000000000001 0000000000008082 800000000000808a 8000000080008000
000000000000808b 0000000080000001 8000000080008081 8000000000008009
000000000000008a 0000000000000088 0000000080008009 000000008000000a
000000008000808b 800000000000008b 8000000000008089 8000000000008003
8000000000008002 8000000000000080 000000000000800a 800000008000000a
8000000080008081 8000000000008080 0000000080000001 8000000080008008
`

// cube is a state, with A[x, y] at [x][y].
type cube [5][5]uint64

func rotated(n int, w uint64) uint64 {
	for range n {
		w = w<<1 + w>>63
	}
	return w
}

// round says the five steps as the chapter does.
func round(a cube, k uint64) cube {
	var c [5]uint64
	for x := range 5 {
		for y := range 5 {
			c[x] ^= a[x][y]
		}
	}
	for x := range 5 {
		for y := range 5 {
			a[x][y] ^= c[(x+4)%5] ^ rotated(1, c[(x+1)%5])
		}
	}
	x, y := 1, 0
	for t := range 24 {
		a[x][y] = rotated((t+1)*(t+2)/2%64, a[x][y])
		x, y = y, (2*x+3*y)%5
	}
	var b cube
	for x := range 5 {
		for y := range 5 {
			b[y][(2*x+3*y)%5] = a[x][y]
		}
	}
	for x := range 5 {
		for y := range 5 {
			a[x][y] = b[x][y] ^ (^b[(x+1)%5][y] & b[(x+2)%5][y])
		}
	}
	a[0][0] ^= k
	return a
}

// hash says as the chapter does what the hash of bytes is.
func hash(b []byte) api.Sum {
	l := append([]byte(nil), b...)
	l = append(l, 6)
	for len(l)%136 != 0 {
		l = append(l, 0)
	}
	l[len(l)-1] += 128
	var a cube
	for ; len(l) > 0; l = l[136:] {
		for i := range 17 {
			a[i%5][i/5] ^= binary.LittleEndian.Uint64(l[8*i:])
		}
		for _, w := range strings.Fields(words) {
			k, err := strconv.ParseUint(w, 16, 64)
			if err != nil {
				panic(err)
			}
			a = round(a, k)
		}
	}
	var s api.Sum
	for x := range 4 {
		binary.LittleEndian.PutUint64(s[8*x:], a[x][0])
	}
	return s
}

// eight returns the eight bytes of n.
func eight(n int) []byte { return binary.BigEndian.AppendUint64(nil, uint64(n)) }

// bytesOf returns the bytes of which the hash of parts is the hash.
func bytesOf(tag byte, parts ...[]byte) []byte {
	l := []byte{tag}
	for _, p := range parts {
		l = append(l, eight(len(p))...)
		l = append(l, p...)
	}
	return l
}

// readParts returns the tag and the parts of which bytesOf has made l.
func readParts(l []byte) (byte, [][]byte) {
	var parts [][]byte
	for rest := l[1:]; len(rest) > 0; {
		n := binary.BigEndian.Uint64(rest)
		parts = append(parts, rest[8:8+n])
		rest = rest[8+n:]
	}
	return l[0], parts
}

// someBytes returns n bytes.
func someBytes(g *rand.Rand, n int) []byte {
	b := make([]byte, n)
	g.Read(b)
	return b
}

// someSum returns any hash.
func someSum(g *rand.Rand) api.Sum { return api.Sum(someBytes(g, 32)) }

// full returns n bytes x.
func full(n int, x byte) []byte {
	b := make([]byte, n)
	for i := range b {
		b[i] = x
	}
	return b
}

// edges are the numbers of bytes about the ends of blocks, and others.
var edges = []int{0, 1, 2, 7, 8, 9, 16, 31, 32, 33, 134, 135, 136, 137, 138, 270, 271, 272, 273, 274, 407, 408, 409, 1359, 1360, 1361, 13599, 13600, 13601}

// odd are numbers of all kinds: negative ones, about those that have one byte or four bytes, and very large ones.
var odd = []int{
	math.MinInt, math.MinInt + 1, math.MinInt32 - 1, math.MinInt32, -1 << 20, -65536, -257, -256, -255, -33, -32, -31, -2, -1,
	0, 1, 2, 7, 83, 127, 128, 255, 256, 257, 65535, 65536, math.MaxInt32, math.MaxInt32 + 1, math.MaxUint32, math.MaxUint32 + 1, math.MaxInt - 1, math.MaxInt,
}

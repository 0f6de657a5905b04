package seal_test

import (
	"bytes"
	"crypto/sha3"
	"encoding/binary"
	"encoding/hex"
	"math"
	"math/rand"

	"burgage/api"
)

// most is the greatest number of bytes that are sealed.
const most = 1 << 20

// tagSize is how many bytes a tag has.
const tagSize = 32

// of returns the hash of parts with a tag.
func of(tag byte, parts ...[]byte) api.Sum {
	l := []byte{tag}
	for _, p := range parts {
		l = binary.BigEndian.AppendUint64(l, uint64(len(p)))
		l = append(l, p...)
	}
	return sha3.Sum256(l)
}

// streamOf returns the first n bytes of the stream of a key and a number.
func streamOf(key api.Sum, id, n int) []byte {
	var l []byte
	number := binary.BigEndian.AppendUint64(nil, uint64(id))
	for i := 0; len(l) < n; i++ {
		block := of(83, key[:], number, binary.BigEndian.AppendUint64(nil, uint64(i)))
		l = append(l, block[:]...)
	}
	return l[:n]
}

// tagOf says as the chapter does what the tag of a key, a number and bytes is.
func tagOf(key api.Sum, id int, b []byte) []byte {
	number := (id%(1<<32) + 1<<32) % (1 << 32)
	four := []byte{byte(number / (1 << 24)), byte(number / (1 << 16) % 256), byte(number / 256 % 256), byte(number % 256)}
	s := of(84, key[:], four, b)
	return s[:]
}

// xor returns the exclusive or of lists of the same length.
func xor(a, b []byte) []byte {
	l := make([]byte, len(a))
	for i := range a {
		l[i] = a[i] ^ b[i]
	}
	return l
}

// tagged returns the noise, and its tag after it.
func tagged(key api.Sum, id int, noise []byte) []byte {
	return append(bytes.Clone(noise), tagOf(key, id, noise)...)
}

// sealed says as the chapter does how bytes are sealed.
func sealed(key api.Sum, id int, b []byte) []byte {
	return tagged(key, id, xor(b, streamOf(key, id, len(b))))
}

// opened says as the chapter does what is opened.
func opened(key api.Sum, id int, c []byte) ([]byte, api.Errno) {
	n := len(c) - tagSize
	if n < 0 || !bytes.Equal(c[n:], tagOf(key, id, c[:n])) {
		return nil, api.ErrSeal
	}
	return xor(c[:n], streamOf(key, id, n)), api.OK
}

// fromHex returns the bytes with these digits.
func fromHex(s string) []byte {
	b, err := hex.DecodeString(s)
	if err != nil {
		panic(err)
	}
	return b
}

// full returns n bytes x.
func full(n int, x byte) []byte { return bytes.Repeat([]byte{x}, n) }

// someBytes returns n bytes.
func someBytes(g *rand.Rand, n int) []byte {
	b := make([]byte, n)
	g.Read(b)
	return b
}

// someKey returns any key.
func someKey(g *rand.Rand) api.Sum { return api.Sum(someBytes(g, 32)) }

func pick[T any](g *rand.Rand, l []T) T { return l[g.Intn(len(l))] }

// counting returns the key of the bytes 0 to 31.
func counting() api.Sum {
	var key api.Sum
	for i := range key {
		key[i] = byte(i)
	}
	return key
}

// keys returns keys of several kinds, that of 32 bytes 0 among them.
func keys() []api.Sum {
	return []api.Sum{{}, {1}, {31: 1}, {128}, api.Sum(full(32, 255)), counting(), someKey(rand.New(rand.NewSource(1)))}
}

// sizes are numbers of bytes: none, one, and those about multiples of 32 and of 136.
var sizes = []int{0, 1, 2, 31, 32, 33, 63, 64, 65, 95, 96, 97, 127, 128, 129, 135, 136, 137, 255, 256, 257, 1023, 1024, 1025, 4096}

// numbers are those of all kinds: negative ones, about those that have one byte or four bytes, and very large ones.
var numbers = []int{
	0, 1, 2, 7, 83, 84, 127, 128, 255, 256, 257, 258, 4095, 4096, 65535, 65536, 1 << 24, math.MaxInt32, math.MaxInt32 + 1, math.MaxUint32,
	math.MaxUint32 + 1, math.MaxUint32 + 2, 1 << 40, math.MaxInt - 1, math.MaxInt,
	-1, -2, -7, -255, -256, -257, -65536, math.MinInt32, math.MinInt32 - 1, -math.MaxUint32, -math.MaxUint32 - 1, math.MinInt + 1, math.MinInt,
}

// equalNumbers are numbers that are equal modulo 2^32, in pairs.
var equalNumbers = [][2]int{
	{0, 1 << 32}, {0, -1 << 32}, {0, 1 << 62}, {0, math.MinInt}, {7, 7 + 1<<32}, {7, 7 - 1<<32}, {-1, math.MaxUint32}, {-1, math.MaxInt}, {-5, -5 + 1<<33},
	{math.MaxInt32, math.MaxInt32 + 1<<40}, {math.MinInt32, math.MaxInt32 + 1}, {258, 258 + 3<<32},
}

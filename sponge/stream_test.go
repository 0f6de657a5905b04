package sponge_test

import (
	"bytes"
	"crypto/sha3"
	"math"
	"math/rand"
	"testing"

	"burgage/api"
	"burgage/sponge"
)

// stream says as the chapter does what the first n bytes of a stream are.
func stream(key api.Sum, id, n int) []byte {
	var l []byte
	for i := 0; len(l) < n; i++ {
		s := hash(bytesOf(83, key[:], eight(id), eight(i)))
		l = append(l, s[:]...)
	}
	return l[:max(n, 0)]
}

// P3.1 (C3): the example of the chapter.
func TestStreamExample(t *testing.T) {
	if got := sponge.Stream(api.Sum{}, 7, 4); !bytes.Equal(got, []byte{0xf9, 0x96, 0x49, 0x2f}) {
		t.Errorf("Stream: %x", got)
	}
}

// P3.1 (C3): no bytes, and as many as end about the ends of blocks.
func TestStreamLengths(t *testing.T) {
	g := rand.New(rand.NewSource(9))
	for _, n := range []int{math.MinInt, math.MinInt32, -1 << 20, -100, -33, -32, -31, -1, 0, 8191, 8192, 8193, 8224, 8225} {
		key := someSum(g)
		if got := sponge.Stream(key, n, n); !bytes.Equal(got, stream(key, n, n)) {
			t.Errorf("Stream of %d bytes: %d bytes", n, len(got))
		}
	}
	for n := range 330 {
		key, id := someSum(g), g.Intn(1000)-500
		if got := sponge.Stream(key, id, n); !bytes.Equal(got, stream(key, id, n)) {
			t.Errorf("Stream of %d bytes: %x", n, got)
		}
	}
}

// P3.1 (C3): numbers of all kinds, also negative and very large ones, each with a stream of its own.
func TestStreamNumbers(t *testing.T) {
	g := rand.New(rand.NewSource(10))
	seen := map[api.Sum]bool{}
	for _, key := range []api.Sum{{}, {1}, {31: 1}, api.Sum(full(32, 255)), someSum(g)} {
		for _, id := range odd {
			got := sponge.Stream(key, id, 70)
			if !bytes.Equal(got, stream(key, id, 70)) {
				t.Fatalf("Stream of %x and %d: %x", key, id, got)
			}
			if s := api.Sum(got[:32]); seen[s] {
				t.Errorf("Stream of %x and %d is that of others", key, id)
			} else {
				seen[s] = true
			}
		}
	}
}

// P3.3: a shorter stream is the beginning of the longest one, each block of which is a hash of parts.
func TestStreamBlocks(t *testing.T) {
	const longest = 1 << 20
	g := rand.New(rand.NewSource(11))
	key, id := someSum(g), -12345
	long := sponge.Stream(key, id, longest)
	if len(long) != longest {
		t.Fatalf("the longest stream has %d bytes", len(long))
	}
	for i := range longest / 32 {
		block := api.Sum(long[32*i:])
		parts := [][]byte{key[:], eight(id), eight(i)}
		if block != sponge.Of('S', parts) || block != sha3.Sum256(bytesOf('S', parts...)) {
			t.Fatalf("the block %d is %x", i, block)
		}
	}
	lengths := []int{longest - 1, longest - 31, longest - 32, longest - 33, longest / 2, 65535, 65536, 65537}
	for n := range 600 {
		lengths = append(lengths, n, g.Intn(50000))
	}
	for _, n := range lengths {
		if got := sponge.Stream(key, id, n); !bytes.Equal(got, long[:n]) {
			t.Fatalf("the stream of %d bytes is not the beginning of a longer one", n)
		}
	}
}

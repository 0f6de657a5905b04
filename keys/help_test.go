package keys_test

import (
	"bytes"
	"crypto/sha3"
	"encoding/binary"
	"math"
	"math/rand"
	"slices"
	"sync"

	"burgage/api"
	"burgage/keys"
)

// follow says as the chapter does which key follows from that of a place, for the place i next below it.
func follow(key api.Sum, i int) api.Sum {
	l := []byte{75}
	for _, p := range [][]byte{key[:], {byte(i)}} {
		l = binary.BigEndian.AppendUint64(l, uint64(len(p)))
		l = append(l, p...)
	}
	return sha3.Sum256(l)
}

// under returns the place i next below c, with its key.
func under(c api.Cover, i int) api.Cover {
	return api.Cover{Depth: c.Depth + 1, At: 2*c.At + i, Key: follow(c.Key, i)}
}

// power returns 2^n.
func power(n int) int {
	p := 1
	for range n {
		p *= 2
	}
	return p
}

// ends returns the first and the last chunk for which c, whose Depth is in its range, stands.
func ends(c api.Cover) (int, int) {
	n := power(12 - c.Depth)
	return c.At * n, c.At*n + n - 1
}

func standsFor(c api.Cover, id int) bool {
	from, to := ends(c)
	return from <= id && id <= to
}

// deeper returns the key of the chunk id, which follows from that of c, and how many hashes that takes.
func deeper(c api.Cover, id int) (api.Sum, int) {
	n := 0
	for ; c.Depth < 12; n++ {
		next := under(c, 0)
		if !standsFor(next, id) {
			next = under(c, 1)
		}
		c = next
	}
	return c.Key, n
}

// keyOf says as the chapter does which key a chunk has, and whether it is known.
func keyOf(k api.Keys, id int) (api.Sum, bool) {
	for _, c := range k.Cover {
		if standsFor(c, id) {
			key, _ := deeper(c, id)
			return key, true
		}
	}
	return api.Sum{}, false
}

// chunkKeys returns the keys of all chunks that are known.
func chunkKeys(k api.Keys) map[int]api.Sum {
	l := map[int]api.Sum{}
	for _, c := range k.Cover {
		for _, x := range allBelow(c) {
			if x.Depth == 12 {
				l[x.At] = x.Key
			}
		}
	}
	return l
}

// allBelow returns c and all places below it, with their keys.
func allBelow(c api.Cover) []api.Cover {
	l := []api.Cover{c}
	for i := 0; i < len(l); i++ {
		if l[i].Depth < 12 {
			l = append(l, under(l[i], 0), under(l[i], 1))
		}
	}
	return l
}

// rest returns what is left of c when the keys of the chunks gone are destroyed.
func rest(c api.Cover, gone map[int]bool) []api.Cover {
	from, to := ends(c)
	touched := false
	for id := from; id <= to; id++ {
		touched = touched || gone[id]
	}
	switch {
	case !touched:
		return []api.Cover{c}
	case c.Depth == 12:
		return nil
	}
	return append(rest(under(c, 0), gone), rest(under(c, 1), gone)...)
}

// without returns what is left of k when the keys of the chunks ids are destroyed.
func without(k api.Keys, ids ...int) api.Keys {
	gone := map[int]bool{}
	for _, id := range ids {
		gone[id] = true
	}
	var left api.Keys
	for _, c := range k.Cover {
		left.Cover = append(left.Cover, rest(c, gone)...)
	}
	return left
}

// destroy destroys keys one after the other.
func destroy(k api.Keys, ids ...int) api.Keys {
	for _, id := range ids {
		k = keys.Destroy(k, id)
	}
	return k
}

// valid says as the chapter does which keys are valid.
func valid(k api.Keys) bool {
	for i, c := range k.Cover {
		if c.Depth < 0 || c.Depth > 12 || c.At < 0 || c.At > power(c.Depth)-1 {
			return false
		}
		from, _ := ends(c)
		for _, x := range k.Cover[:i] {
			if _, to := ends(x); from <= to {
				return false
			}
		}
	}
	return true
}

// bytesOf says as the chapter does what the bytes of keys are.
func bytesOf(k api.Keys) []byte {
	var l []byte
	for _, c := range k.Cover {
		l = append(l, byte(c.Depth), byte(c.At/256), byte(c.At%256))
		for _, x := range c.Key {
			l = append(l, x)
		}
	}
	return l
}

// parsed says as the chapter does which valid keys have these bytes.
func parsed(b []byte) (api.Keys, api.Errno) {
	var k api.Keys
	for ; len(b) >= 35; b = b[35:] {
		k.Cover = append(k.Cover, api.Cover{Depth: int(b[0]), At: 256*int(b[1]) + int(b[2]), Key: api.Sum(b[3:35])})
	}
	if len(b) > 0 || !valid(k) {
		return api.Keys{}, api.ErrForm
	}
	return k, api.OK
}

func same(k, l api.Keys) bool { return slices.Equal(k.Cover, l.Cover) }

func of(c ...api.Cover) api.Keys { return api.Keys{Cover: c} }

// at returns the place, with some key.
func at(depth, at int) api.Cover {
	return api.Cover{Depth: depth, At: at, Key: api.Sum{byte(depth), byte(at >> 8), byte(at), 9}}
}

// row returns n places of one depth, from the place i on.
func row(depth, i, n int) api.Keys {
	var k api.Keys
	for j := range n {
		k.Cover = append(k.Cover, at(depth, i+j))
	}
	return k
}

func pick[T any](g *rand.Rand, l []T) T { return l[g.Intn(len(l))] }

func someSum(g *rand.Rand) api.Sum {
	var s api.Sum
	g.Read(s[:])
	return s
}

// counting returns the hash of the bytes 0 to 31.
func counting() api.Sum {
	var s api.Sum
	for i := range s {
		s[i] = byte(i)
	}
	return s
}

// full returns the hash of the bytes 255.
func full() api.Sum { return api.Sum(bytes.Repeat([]byte{255}, 32)) }

func seeds() []api.Sum {
	return []api.Sum{{}, {1}, {31: 1}, full(), counting(), someSum(rand.New(rand.NewSource(1)))}
}

// someCovers returns places below c, or c, or nothing, in the order of their chunks; the more so, the more are yet to go.
func someCovers(g *rand.Rand, c api.Cover) []api.Cover {
	switch n := g.Intn(10); {
	case n < 2 && c.Depth > 1:
		return nil
	case n < 4 && c.Depth > 1 || c.Depth == 12:
		c.Key = someSum(g)
		return []api.Cover{c}
	}
	low, high := api.Cover{Depth: c.Depth + 1, At: 2 * c.At}, api.Cover{Depth: c.Depth + 1, At: 2*c.At + 1}
	return append(someCovers(g, low), someCovers(g, high)...)
}

// someKeys returns any valid keys.
func someKeys(g *rand.Rand) api.Keys { return of(someCovers(g, api.Cover{})...) }

// someIds returns n chunks, of which some stand twice, and some next to each other.
func someIds(g *rand.Rand, n int) []int {
	var ids []int
	for range n {
		switch id := g.Intn(4096); {
		case len(ids) > 0 && g.Intn(8) == 0:
			ids = append(ids, pick(g, ids))
		case len(ids) > 0 && g.Intn(4) == 0:
			ids = append(ids, pick(g, ids)^1)
		default:
			ids = append(ids, id)
		}
	}
	return ids
}

// span returns the numbers from a to b, without b.
func span(a, b int) []int {
	var l []int
	for i := a; i < b; i++ {
		l = append(l, i)
	}
	return l
}

// edges are the first chunks and the last ones, and those about the middle and the quarters.
var edges = []int{0, 1, 2, 3, 1023, 1024, 2046, 2047, 2048, 2049, 3071, 3072, 4093, 4094, 4095}

// noChunks are numbers that are no chunk: negative ones, too large ones, and those that would be chunks with fewer bits.
var noChunks = []int{
	-1, -2, -2048, -4095, -4096, -4097, 4096, 4097, 6143, 6144, 8191, 8192, 65536, 1 << 24, 1<<32 - 1, 1 << 32, 1<<32 + 5, 1<<52 + 7,
	-1 << 32, 5 - 1<<32, math.MaxInt32, math.MinInt32, math.MaxInt - 1, math.MaxInt, math.MinInt + 5, math.MinInt,
}

// samples returns valid keys of all kinds.
var samples = sync.OnceValue(func() []api.Keys {
	l := []api.Keys{
		{}, of([]api.Cover{}...), of(at(0, 0)), of(api.Cover{}), of(at(1, 0)), of(at(1, 1)), of(at(1, 0), at(1, 1)), of(at(2, 1), at(2, 2)),
		of(at(12, 0)), of(at(12, 4095)), of(at(12, 2047)), of(at(12, 2048)), of(at(12, 2047), at(12, 2048)), of(at(12, 0), at(12, 4095)),
		of(at(1, 0), at(12, 2048)), of(at(12, 2047), at(1, 1)), of(at(12, 0), at(12, 1), at(11, 1), at(10, 1)), of(at(11, 2046), at(12, 4094)),
		of(at(3, 0), at(2, 1), at(12, 2048), at(5, 31)), row(12, 0, 4096), row(12, 2000, 100), row(8, 0, 256), row(11, 1, 2046),
	}
	g := rand.New(rand.NewSource(2))
	for range 30 {
		l = append(l, someKeys(g))
	}
	for _, s := range seeds() {
		l = append(l, of(api.Cover{Key: s}), without(of(api.Cover{Key: s}), pick(g, edges)), without(of(api.Cover{Key: s}), someIds(g, 20)...))
	}
	return l
})

// numbersFor returns chunks that k knows and chunks that it does not know: edges, some, and those about the ends of its elements.
func numbersFor(g *rand.Rand, k api.Keys) []int {
	ids := append(someIds(g, 10), edges...)
	for range min(len(k.Cover), 12) {
		from, to := ends(pick(g, k.Cover))
		for _, id := range []int{from - 1, from, to, to + 1} {
			if 0 <= id && id < 4096 {
				ids = append(ids, id)
			}
		}
	}
	return ids
}

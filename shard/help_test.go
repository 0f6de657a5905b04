package shard_test

import (
	"bytes"
	"encoding/hex"
	"math"
	"math/bits"
	"math/rand"
	"slices"
	"strings"
	"sync"

	"burgage/api"
)

// product says as the chapter does what the product of two bytes is: that of two polynomials, and what remains of it when it is divided.
func product(a, b byte) byte {
	whole := 0
	for i := range 8 {
		for j := range 8 {
			if a>>i&1 == 1 && b>>j&1 == 1 {
				whole ^= 1 << (i + j)
			}
		}
	}
	for power := 14; power >= 8; power-- {
		if whole>>power&1 == 1 {
			whole ^= 285 << (power - 8)
		}
	}
	return byte(whole)
}

// products are those of all pairs of bytes.
var products = sync.OnceValue(func() *[256][256]byte {
	var l [256][256]byte
	for a := range 256 {
		for b := range 256 {
			l[a][b] = product(byte(a), byte(b))
		}
	}
	return &l
})

// times returns the product of a and b.
func times(a, b byte) byte { return products()[a][b] }

// over returns the byte whose product with b, which is not 0, is a.
func over(a, b byte) byte {
	row := products()[b]
	return byte(slices.Index(row[:], a))
}

// powerOf returns the product of n factors x.
func powerOf(x byte, n int) byte {
	p := byte(1)
	for range n {
		p = times(p, x)
	}
	return p
}

// coefficients returns those of the polynomial of a degree below the number of points that has these values there: it solves an equation for each point.
func coefficients(points, values []byte) []byte {
	k := len(points)
	rows := make([][]byte, k)
	for i := range rows {
		for n := range k {
			rows[i] = append(rows[i], powerOf(points[i], n))
		}
		rows[i] = append(rows[i], values[i])
	}
	for n := range k {
		pivot := n + slices.IndexFunc(rows[n:], func(row []byte) bool { return row[n] != 0 })
		rows[n], rows[pivot] = rows[pivot], rows[n]
		unit := rows[n][n]
		for j := range rows[n] {
			rows[n][j] = over(rows[n][j], unit)
		}
		for i, row := range rows {
			if i != n {
				factor := row[n]
				for j := range row {
					row[j] ^= times(factor, rows[n][j])
				}
			}
		}
	}
	var l []byte
	for _, row := range rows {
		l = append(l, row[k])
	}
	return l
}

// valueAt returns the value at the point x of the polynomial with these coefficients.
func valueAt(l []byte, x byte) byte {
	sum := byte(0)
	for n, c := range l {
		sum ^= times(c, powerOf(x, n))
	}
	return sum
}

// valuesAt returns, for each index of the bytes of lists of the same length, the value at the point x of the polynomial that has their bytes at these points.
func valuesAt(points []byte, lists [][]byte, x byte) []byte {
	l := []byte{}
	for j := range lists[0] {
		var values []byte
		for _, b := range lists {
			values = append(values, b[j])
		}
		l = append(l, valueAt(coefficients(points, values), x))
	}
	return l
}

// points returns the first k points.
func points(k int) []byte {
	l := []byte{}
	for i := range k {
		l = append(l, byte(i))
	}
	return l
}

// lengthOf returns size divided by k, rounded up.
func lengthOf(size, k int) int {
	each := size / k
	if each*k < size {
		each++
	}
	return each
}

func isProper(l [][]byte, k int) bool { return len(l) <= 12 && 1 <= k && k <= len(l) }

// encoded says as the chapter does what the shards of b are, for k and n in their ranges.
func encoded(b []byte, k, n int) [][]byte {
	each := lengthOf(len(b), k)
	all := slices.Concat(b, make([]byte, k*each-len(b)))
	l := [][]byte{}
	for i := range n {
		if i < k {
			l = append(l, bytes.Clone(all[i*each:(i+1)*each]))
		} else {
			l = append(l, valuesAt(points(k), l[:k], byte(i)))
		}
	}
	return l
}

// found returns the first k shards that are there, with their points.
func found(l [][]byte, k int, there []bool) (at []byte, shards [][]byte) {
	for i, is := range there {
		if is && len(at) < k {
			at, shards = append(at, byte(i)), append(shards, l[i])
		}
	}
	return at, shards
}

// decoded says as the chapter does what shards are decoded to.
func decoded(l [][]byte, k, size int) ([]byte, api.Errno) {
	if !isProper(l, k) || size < 0 {
		return nil, api.ErrArg
	}
	there := make([]bool, len(l))
	for i, s := range l {
		there[i] = len(s) == lengthOf(size, k)
	}
	at, shards := found(l, k, there)
	if len(at) < k {
		return nil, api.ErrShards
	}
	b := []byte{}
	for i := range k {
		b = append(b, valuesAt(at, shards, byte(i))...)
	}
	return b[:size], api.OK
}

// rebuilt says as the chapter does which shard is rebuilt.
func rebuilt(l [][]byte, k, i int) ([]byte, api.Errno) {
	if !isProper(l, k) || i < 0 || i >= len(l) {
		return nil, api.ErrArg
	}
	most := 0
	for j, s := range l {
		if j != i && len(s) > most {
			most = len(s)
		}
	}
	there := make([]bool, len(l))
	for j, s := range l {
		there[j] = j != i && len(s) == most
	}
	at, shards := found(l, k, there)
	if len(at) < k {
		return nil, api.ErrShards
	}
	return valuesAt(at, shards, byte(i)), api.OK
}

// belong says as the chapter does whether shards belong together.
func belong(l [][]byte, k int) bool {
	if !isProper(l, k) {
		return false
	}
	var b []byte
	for _, s := range l {
		if len(s) != len(l[0]) {
			return false
		}
	}
	for _, s := range l[:k] {
		b = append(b, s...)
	}
	return equal(l, encoded(b, k, len(l)))
}

func equal(l, m [][]byte) bool { return slices.EqualFunc(l, m, bytes.Equal) }

// clone returns a copy of l that shares no memory with it.
func clone(l [][]byte) [][]byte {
	c := [][]byte{}
	for _, s := range l {
		c = append(c, bytes.Clone(s))
	}
	return c
}

// only returns those shards of l that are in the set, and nothing in the place of each other one.
func only(l [][]byte, set uint) [][]byte {
	c := make([][]byte, len(l))
	for i, s := range l {
		if set>>i&1 == 1 {
			c[i] = s
		}
	}
	return c
}

// sets returns all sets of k of the numbers below n, as bits.
func sets(n, k int) []uint {
	var l []uint
	for set := range uint(1) << n {
		if bits.OnesCount(set) == k {
			l = append(l, set)
		}
	}
	return l
}

// pairs returns all k and n that shards may have.
func pairs() [][2]int {
	var l [][2]int
	for n := 1; n <= 12; n++ {
		for k := 1; k <= n; k++ {
			l = append(l, [2]int{k, n})
		}
	}
	return l
}

// sizesFor returns numbers of bytes: none, one, those that k divides, and those about them.
func sizesFor(k int) []int {
	l := []int{0, 1, 2, k - 1, k, k + 1, 2*k - 1, 2 * k, 2*k + 1, 3*k - 1, 3 * k}
	slices.Sort(l)
	return slices.Compact(l)
}

// fromHex returns the lists of bytes with these digits, between which there are spaces.
func fromHex(s string) [][]byte {
	l := [][]byte{}
	for _, digits := range strings.Split(s, " ") {
		b, err := hex.DecodeString(digits)
		if err != nil {
			panic(err)
		}
		l = append(l, b)
	}
	return l
}

// someBytes returns n bytes.
func someBytes(g *rand.Rand, n int) []byte {
	b := make([]byte, n)
	g.Read(b)
	return b
}

// someShards returns up to 13 lists of bytes, most of them as long as the first one.
func someShards(g *rand.Rand) [][]byte {
	l := make([][]byte, g.Intn(14))
	n := g.Intn(5)
	for i := range l {
		l[i] = someBytes(g, n)
		if g.Intn(6) == 0 {
			l[i] = someBytes(g, g.Intn(7))
		}
	}
	return l
}

func pick[T any](g *rand.Rand, l []T) T { return l[g.Intn(len(l))] }

// odd are numbers out of all ranges: negative ones, those next to 12, those that are in range modulo a power of 2, and very great ones.
var odd = []int{
	math.MinInt, math.MinInt + 1, math.MinInt + 3, math.MinInt32, -1 << 32, 3 - 1<<32, -256, -253, -12, -3, -2, -1,
	13, 14, 15, 16, 24, 127, 128, 129, 255, 256, 257, 259, 65537, math.MaxInt32, math.MaxUint32, 1<<32 + 1, 1<<32 + 3, math.MaxInt - 11, math.MaxInt - 1, math.MaxInt,
}

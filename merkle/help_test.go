package merkle_test

import (
	"cmp"
	"crypto/sha3"
	"encoding/binary"
	"fmt"
	"maps"
	"math/big"
	"math/rand"
	"slices"
	"strconv"
	"strings"
	"sync"

	"burgage/api"
)

// hashing is how bytes are hashed.
type hashing func([]byte) api.Sum

// strong is the hash of layer 3.
func strong(b []byte) api.Sum { return sha3.Sum256(b) }

// of returns the hash of parts with a tag.
func (h hashing) of(tag byte, parts ...string) api.Sum { return h(bytesOf(tag, parts...)) }

// bytesOf returns the bytes of which the hash of parts is the hash.
func bytesOf(tag byte, parts ...string) []byte {
	l := []byte{tag}
	for _, p := range parts {
		l = binary.BigEndian.AppendUint64(l, uint64(len(p)))
		l = append(l, p...)
	}
	return l
}

func text(s api.Sum) string { return string(s[:]) }

// bitsOf returns the 256 bits of a key, as digits.
func bitsOf(key string) string {
	s := strong([]byte(key))
	return fmt.Sprintf("%0256b", new(big.Int).SetBytes(s[:]))
}

// half returns the leaves whose bit d is the digit.
func half(l []api.Leaf, d int, digit byte) []api.Leaf {
	var part []api.Leaf
	for _, x := range l {
		if bitsOf(x.Key)[d] == digit {
			part = append(part, x)
		}
	}
	return part
}

// parted reports whether the hash of a node is made of those of its halves.
func parted(l []api.Leaf, d int) bool { return len(l) > 1 && d < 256 }

// hashAt says as the chapter does what the hash of a node of the depth d is.
func hashAt(l []api.Leaf, d int) api.Sum {
	switch {
	case len(l) == 0:
		return api.Sum{}
	case parted(l, d):
		return hashing(strong).of('N', text(hashAt(half(l, d, '0'), d+1)), text(hashAt(half(l, d, '1'), d+1)))
	}
	return hashing(strong).of('L', l[0].Key, text(l[0].Val))
}

// proofOf says as the chapter does what the proof for a key is.
func proofOf(l []api.Leaf, key string) api.Proof {
	var p api.Proof
	b := bitsOf(key)
	for d := 0; parted(l, d); d++ {
		p.Path = append(p.Path, hashAt(half(l, d, '0'+'1'-b[d]), d+1))
		l = half(l, d, b[d])
	}
	switch {
	case len(l) == 0:
	case l[0].Key == key:
		p.End, p.Leaf = api.Same, l[0]
	default:
		p.End, p.Leaf = api.Other, l[0]
	}
	return p
}

// fits says which ends of a proof are accepted for a key.
func fits(key string, p api.Proof) bool {
	switch p.End {
	case api.Nothing:
		return p.Leaf == api.Leaf{}
	case api.Same:
		return p.Leaf.Key == key
	case api.Other:
		return p.Leaf.Key != key && bitsOf(p.Leaf.Key)[:len(p.Path)] == bitsOf(key)[:len(p.Path)]
	}
	return false
}

// step is how a hash comes about: the bytes of which it is the hash (none at the end Nothing), and the hash.
type step struct {
	bytes string
	hash  api.Sum
}

// steps returns how the root is found, from the end of the way on.
func (h hashing) steps(key string, p api.Proof) []step {
	var s step
	if p.End != api.Nothing {
		b := bytesOf('L', p.Leaf.Key, text(p.Leaf.Val))
		s = step{string(b), h(b)}
	}
	l := []step{s}
	b := bitsOf(key)
	for i := len(p.Path) - 1; i >= 0; i-- {
		x, y := text(s.hash), text(p.Path[i])
		if b[i] == '1' {
			x, y = y, x
		}
		n := bytesOf('N', x, y)
		s = step{string(n), h(n)}
		l = append(l, s)
	}
	return l
}

// shown is what Check returns.
type shown struct {
	val    api.Sum
	is, ok bool
}

// check says as the chapter does how a proof is checked.
func (h hashing) check(root api.Sum, key string, p api.Proof) shown {
	if len(p.Path) > 256 || !fits(key, p) {
		return shown{}
	}
	l := h.steps(key, p)
	if l[len(l)-1].hash != root {
		return shown{}
	}
	if p.End == api.Same {
		return shown{p.Leaf.Val, true, true}
	}
	return shown{ok: true}
}

// valuesOf returns the value of each key.
func valuesOf(l []api.Leaf) map[string]api.Sum {
	vals := map[string]api.Sum{}
	for _, x := range l {
		vals[x.Key] = x.Val
	}
	return vals
}

// listOf returns the valid list with these values.
func listOf(vals map[string]api.Sum) []api.Leaf {
	var l []api.Leaf
	for _, key := range slices.Sorted(maps.Keys(vals)) {
		l = append(l, api.Leaf{Key: key, Val: vals[key]})
	}
	return l
}

// differing returns the keys whose leaves differ, in order.
func differing(a, b []api.Leaf) []string {
	x, y := valuesOf(a), valuesOf(b)
	found := map[string]bool{}
	for _, e := range slices.Concat(a, b) {
		v, inX := x[e.Key]
		w, inY := y[e.Key]
		if inX != inY || v != w {
			found[e.Key] = true
		}
	}
	return slices.Sorted(maps.Keys(found))
}

// pairsOf says as the chapter does how many pairs of nodes are compared.
func pairsOf(a, b []api.Leaf, d int) int {
	if hashAt(a, d) == hashAt(b, d) || len(a) <= 1 || len(b) <= 1 || d == 256 {
		return 1
	}
	return 1 + pairsOf(half(a, d, '0'), half(b, d, '0'), d+1) + pairsOf(half(a, d, '1'), half(b, d, '1'), d+1)
}

func leaf(key string, val byte) api.Leaf { return api.Leaf{Key: key, Val: api.Sum{31: val}} }

// list returns the valid list of these leaves.
func list(l ...api.Leaf) []api.Leaf {
	return slices.SortedFunc(slices.Values(l), func(a, b api.Leaf) int { return cmp.Compare(a.Key, b.Key) })
}

// many returns a valid list of k leaves.
func many(k int) []api.Leaf {
	vals := map[string]api.Sum{}
	for i := range k {
		vals["k"+strconv.Itoa(i)] = api.Sum{byte(i), byte(i >> 8), 1}
	}
	return listOf(vals)
}

// closePairs returns pairs of keys that agree in many first bits, those that agree in the most of them first.
var closePairs = sync.OnceValue(func() [][2]string {
	sums := map[string]string{}
	for i := range 6000 {
		key := "c" + strconv.Itoa(i)
		sums[text(strong([]byte(key)))] = key
	}
	order := slices.Sorted(maps.Keys(sums))
	var pairs [][2]string
	for i, s := range order[1:] {
		if s[:2] == order[i][:2] {
			pairs = append(pairs, [2]string{sums[order[i]], sums[s]})
		}
	}
	slices.SortStableFunc(pairs, func(a, b [2]string) int { return agreeing(b[0], b[1]) - agreeing(a[0], a[1]) })
	return pairs
})

// agreeing returns in how many first bits two keys agree.
func agreeing(a, b string) int {
	x, y := bitsOf(a), bitsOf(b)
	n := 0
	for n < 256 && x[n] == y[n] {
		n++
	}
	return n
}

func pick[T any](g *rand.Rand, l []T) T { return l[g.Intn(len(l))] }

// someSum returns one of few hashes, or any.
func someSum(g *rand.Rand) api.Sum {
	var s api.Sum
	switch g.Intn(4) {
	case 0:
	case 1:
		s[31] = byte(g.Intn(3))
	default:
		g.Read(s[:])
	}
	return s
}

// someKey returns a key: one of few, or one with any bytes.
func someKey(g *rand.Rand) string {
	switch g.Intn(5) {
	case 0:
		return pick(g, []string{"", "\x00", "\x00\x00", "\x7f", "\x80", "\xff", "\xff\xff", "é", "a", "ab", "a/b", strings.Repeat("a", 300)})
	case 1:
		b := make([]byte, g.Intn(6))
		g.Read(b)
		return string(b)
	}
	return strconv.Itoa(g.Intn(60))
}

// someList returns a valid list of at most k leaves.
func someList(g *rand.Rand, k int) []api.Leaf {
	vals := map[string]api.Sum{}
	for range g.Intn(k + 1) {
		vals[someKey(g)] = someSum(g)
	}
	return listOf(vals)
}

// edited returns l after at most k changes.
func edited(g *rand.Rand, l []api.Leaf, k int) []api.Leaf {
	vals := valuesOf(l)
	for range g.Intn(k + 1) {
		key := someKey(g)
		if len(l) > 0 && g.Intn(2) == 0 {
			key = pick(g, l).Key
		}
		if g.Intn(3) == 0 {
			delete(vals, key)
		} else {
			vals[key] = someSum(g)
		}
	}
	return listOf(vals)
}

// lists returns valid lists of all kinds.
func lists() [][]api.Leaf {
	zero := api.Leaf{}
	l := [][]api.Leaf{
		nil, {}, list(zero), list(leaf("", 5)), list(leaf("a", 0)), list(leaf("a", 1)), list(leaf("\xff", 1)),
		list(zero, leaf("a", 1)), list(zero, leaf("\x00", 0), leaf("\x00\x00", 0)),
		many(2), many(3), many(4), many(17), many(100),
	}
	for _, c := range closePairs()[:3] {
		pair := list(leaf(c[0], 1), leaf(c[1], 1))
		l = append(l, pair, list(append(pair, many(5)...)...), list(append(pair, zero)...))
	}
	g := rand.New(rand.NewSource(1))
	for range 60 {
		l = append(l, someList(g, 3), someList(g, 12))
	}
	return append(l, someList(g, 80), someList(g, 80))
}

// keysFor returns keys that are in l, and keys that are not.
func keysFor(g *rand.Rand, l []api.Leaf) []string {
	keys := []string{"", "\x00", "not there", "\xff\xff\xff"}
	for _, x := range l {
		keys = append(keys, x.Key)
	}
	for range 12 {
		keys = append(keys, someKey(g))
	}
	for _, c := range closePairs()[:1] {
		keys = append(keys, c[0], c[1])
	}
	return keys
}

// sameProof reports whether two proofs are equal.
func sameProof(p, q api.Proof) bool {
	return slices.Equal(p.Path, q.Path) && p.End == q.End && p.Leaf == q.Leaf
}

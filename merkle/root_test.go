package merkle_test

import (
	"math/rand"
	"slices"
	"testing"

	"burgage/api"
	"burgage/merkle"
	"burgage/sponge"
)

// P4.1 (D2): the examples of the chapter, and the root of two leaves, which is told by their bits.
func TestRootExamples(t *testing.T) {
	a := api.Leaf{Key: "a", Val: api.Sum{1, 2, 3}}
	of := func(tag byte, x, y []byte) api.Sum { return sponge.Of(tag, [][]byte{x, y}) }
	if got := merkle.Root(nil); got != (api.Sum{}) {
		t.Errorf("Root of no leaves: %x", got)
	}
	if got := merkle.Root(list(a)); got != of('L', []byte("a"), a.Val[:]) {
		t.Errorf("Root of one leaf: %x", got)
	}
	var zero api.Sum
	if got := merkle.Root([]api.Leaf{{}}); got != of('L', nil, zero[:]) {
		t.Errorf("Root of the leaf with the empty key and the empty value: %x", got)
	}
	b, d := leaf("b", 1), leaf("d", 2)
	if x, y, z := bitsOf("a")[:3], bitsOf("b")[:3], bitsOf("d")[:1]; x != "100" || y != "101" || z != "0" {
		t.Fatalf("the bits of a, b and d begin with %s, %s and %s", x, y, z)
	}
	ha, hb, hd := merkle.Root(list(a)), merkle.Root(list(b)), merkle.Root(list(d))
	if got := merkle.Root(list(a, d)); got != of('N', hd[:], ha[:]) {
		t.Errorf("Root of a and d: %x", got)
	}
	both := of('N', ha[:], hb[:])
	under := of('N', both[:], zero[:])
	if got := merkle.Root(list(a, b)); got != of('N', zero[:], under[:]) {
		t.Errorf("Root of a and b: %x", got)
	}
	if got := merkle.Root(list(a, b, d)); got != of('N', hd[:], under[:]) {
		t.Errorf("Root of a, b and d: %x", got)
	}
}

// P4.1 (D2): lists of all kinds have the roots that the chapter says, and different ones have different roots.
func TestRoot(t *testing.T) {
	seen := map[api.Sum][]api.Leaf{}
	for _, l := range lists() {
		got := merkle.Root(l)
		if want := hashAt(l, 0); got != want {
			t.Fatalf("Root of %q: %x, not %x", l, got, want)
		}
		if other, is := seen[got]; is && !slices.Equal(l, other) {
			t.Fatalf("%q and %q have one root", l, other)
		}
		seen[got] = l
	}
}

// P4.1 (D2): each level at which keys still agree has a node with an empty half.
func TestRootOfKeysThatAgree(t *testing.T) {
	for _, c := range closePairs()[:10] {
		n := agreeing(c[0], c[1])
		l := list(leaf(c[0], 1), leaf(c[1], 2))
		if got := merkle.Root(l); n < 16 || got != hashAt(l, 0) {
			t.Errorf("Root of %q, which agree in %d bits: %x", c, n, got)
		}
		if p := merkle.Prove(l, c[0]); len(p.Path) != n+1 || slices.ContainsFunc(p.Path[:n], func(s api.Sum) bool { return s != api.Sum{} }) {
			t.Errorf("Prove of %q beside %q, which agree in %d bits: a Path of %d elements", c[0], c[1], n, len(p.Path))
		}
	}
}

// P4.4: the root is made of the hashes of both halves, which are also those of the lists of these halves alone.
func TestHalves(t *testing.T) {
	// in is the root of some leaves with the same first bit, whose node of the depth 1 has the hash.
	in := func(l []api.Leaf, hash api.Sum, digit byte) api.Sum {
		var zero api.Sum
		switch {
		case !parted(l, 0):
			return hash
		case digit == '0':
			return sponge.Of('N', [][]byte{hash[:], zero[:]})
		}
		return sponge.Of('N', [][]byte{zero[:], hash[:]})
	}
	for _, l := range lists() {
		left, right := half(l, 0, '0'), half(l, 0, '1')
		if !parted(l, 0) {
			if root := merkle.Root(l); merkle.Root(left) != root && merkle.Root(right) != root {
				t.Fatalf("%q: the half with all leaves has another root", l)
			}
			continue
		}
		x, y := hashAt(left, 1), hashAt(right, 1)
		if got := merkle.Root(l); got != sponge.Of('N', [][]byte{x[:], y[:]}) {
			t.Fatalf("%q: the root is not made of those of its halves", l)
		}
		if merkle.Root(left) != in(left, x, '0') || merkle.Root(right) != in(right, y, '1') {
			t.Fatalf("%q: the halves alone have other roots", l)
		}
		for _, e := range l {
			want := x
			if bitsOf(e.Key)[0] == '0' {
				want = y
			}
			if p := merkle.Prove(l, e.Key); len(p.Path) == 0 || p.Path[0] != want {
				t.Fatalf("%q: the proof for %q begins with another hash than that of the other half", l, e.Key)
			}
		}
	}
}

// P4.1 (D1): keys that increase byte by byte are valid, equal ones and others are not.
func TestValid(t *testing.T) {
	for _, l := range lists() {
		if !merkle.Valid(l) {
			t.Errorf("%q is valid", l)
		}
	}
	keys := []string{"", "\x00", "\x00\x00", "\x01", "A", "Z", "a", "a\x00", "aa", "ab", "b", "é", "\x7f", "\x80", "\xff", "\xff\xff"}
	slices.Sort(keys)
	for i, a := range keys {
		for j, b := range keys {
			if got := merkle.Valid([]api.Leaf{leaf(a, 2), leaf(b, 1)}); got != (i < j) {
				t.Errorf("Valid of %q and %q: %v", a, b, got)
			}
			for k, c := range keys {
				if got := merkle.Valid([]api.Leaf{leaf(a, 0), leaf(b, 0), leaf(c, 0)}); got != (i < j && j < k) {
					t.Errorf("Valid of %q, %q and %q: %v", a, b, c, got)
				}
			}
		}
	}
}

// P4.1 (D1): one wrong place anywhere in a long list makes it not valid.
func TestValidOfLongLists(t *testing.T) {
	g := rand.New(rand.NewSource(2))
	l := many(500)
	for i := range len(l) - 1 {
		for _, change := range []func(x []api.Leaf){
			func(x []api.Leaf) { x[i], x[i+1] = x[i+1], x[i] },
			func(x []api.Leaf) { x[i+1] = x[i] },
			func(x []api.Leaf) { x[i].Key = x[i+1].Key },
		} {
			x := slices.Clone(l)
			change(x)
			if merkle.Valid(x) {
				t.Fatalf("valid, though the leaves %d and %d are %q and %q", i, i+1, x[i], x[i+1])
			}
		}
	}
	for range 200 {
		x := slices.Clone(l)
		g.Shuffle(len(x), func(i, j int) { x[i], x[j] = x[j], x[i] })
		if merkle.Valid(x) {
			t.Fatal("valid, though the leaves were shuffled")
		}
	}
}

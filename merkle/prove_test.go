package merkle_test

import (
	"math/rand"
	"testing"

	"burgage/api"
	"burgage/merkle"
)

// P4.1 (D3 and D4): the examples of the chapter.
func TestProveExamples(t *testing.T) {
	a := leaf("a", 9)
	for _, x := range []struct {
		l    []api.Leaf
		key  string
		want api.Proof
		is   bool
	}{
		{nil, "b", api.Proof{}, false},
		{list(a), "b", api.Proof{End: api.Other, Leaf: a}, false},
		{list(a), "a", api.Proof{End: api.Same, Leaf: a}, true},
		{nil, "", api.Proof{}, false},
		{list(a), "", api.Proof{End: api.Other, Leaf: a}, false},
		{list(api.Leaf{}), "", api.Proof{End: api.Same}, true},
		{list(api.Leaf{}), "a", api.Proof{End: api.Other}, false},
	} {
		got := merkle.Prove(x.l, x.key)
		if !sameProof(got, x.want) {
			t.Errorf("Prove of %q in %q: %v", x.key, x.l, got)
		}
		val, is, ok := merkle.Check(merkle.Root(x.l), x.key, got)
		if is != x.is || !ok || is && val != x.l[0].Val || !is && val != (api.Sum{}) {
			t.Errorf("Check of %q in %q: %x, %v, %v", x.key, x.l, val, is, ok)
		}
	}
}

// P4.1 (D3): the ways to keys that are there, that are not there where no leaf stands, and where another leaf stands, are those that the chapter says.
func TestProve(t *testing.T) {
	g := rand.New(rand.NewSource(3))
	ends := map[int]int{}
	for _, l := range lists() {
		for _, key := range keysFor(g, l) {
			got, want := merkle.Prove(l, key), proofOf(l, key)
			if !sameProof(got, want) {
				t.Fatalf("Prove of %q in %q: %v, not %v", key, l, got, want)
			}
			if len(got.Path) > 0 {
				ends[got.End]++
			}
		}
	}
	for _, end := range []int{api.Nothing, api.Same, api.Other} {
		if ends[end] < 100 {
			t.Errorf("only %d ways end with %d", ends[end], end)
		}
	}
}

// P4.2: the proof for a key is accepted, and shows what the key has.
func TestProofs(t *testing.T) {
	g := rand.New(rand.NewSource(4))
	for _, l := range append(lists(), many(3000)) {
		root, vals := merkle.Root(l), valuesOf(l)
		keys := keysFor(g, l)
		if len(keys) > 120 {
			g.Shuffle(len(keys), func(i, j int) { keys[i], keys[j] = keys[j], keys[i] })
			keys = keys[:30]
		}
		for _, key := range keys {
			val, is, ok := merkle.Check(root, key, merkle.Prove(l, key))
			if want, there := vals[key]; !ok || is != there || val != want {
				t.Fatalf("the key %q of %d leaves has %x, %v: %x, %v, %v", key, len(l), want, there, val, is, ok)
			}
		}
	}
}

// P4.2: one leaf or no leaf at the end of the longest ways that can be found.
func TestLongWays(t *testing.T) {
	for _, c := range closePairs()[:20] {
		x, y := leaf(c[0], 1), leaf(c[1], 2)
		n := agreeing(c[0], c[1])
		for _, e := range []struct {
			l    []api.Leaf
			key  string
			path int
			end  int
		}{
			{list(x, y), c[0], n + 1, api.Same},
			{list(x, y), c[1], n + 1, api.Same},
			{list(x), c[1], 0, api.Other},
			{list(y), c[0], 0, api.Other},
			{nil, c[0], 0, api.Nothing},
		} {
			p := merkle.Prove(e.l, e.key)
			if len(p.Path) != e.path || p.End != e.end {
				t.Errorf("Prove of %q in %q: a Path of %d elements, and the End %d", e.key, e.l, len(p.Path), p.End)
			}
			if _, is, ok := merkle.Check(merkle.Root(e.l), e.key, p); !ok || is != (e.end == api.Same) {
				t.Errorf("Check of %q in %q: %v, %v", e.key, e.l, is, ok)
			}
		}
	}
}

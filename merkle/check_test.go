package merkle_test

import (
	"math"
	"math/rand"
	"slices"
	"testing"

	"burgage/api"
	"burgage/merkle"
)

// ask returns what Check says of a proof.
func ask(root api.Sum, key string, p api.Proof) shown {
	val, is, ok := merkle.Check(root, key, p)
	return shown{val, is, ok}
}

// rootBy returns the root that is found with p, whether p may be accepted or not.
func rootBy(key string, p api.Proof) api.Sum {
	l := hashing(strong).steps(key, p)
	return l[len(l)-1].hash
}

// ends returns p with each End, of the three and of others, and with each of a few leaves.
func ends(p api.Proof, leaves ...api.Leaf) []api.Proof {
	var l []api.Proof
	for _, end := range []int{math.MinInt, -1, api.Nothing, api.Same, api.Other, 3, 4, 256, math.MaxInt} {
		for _, x := range append([]api.Leaf{p.Leaf}, leaves...) {
			l = append(l, api.Proof{Path: p.Path, End: end, Leaf: x})
		}
	}
	return l
}

// paths returns p with an element of Path changed, left out, doubled, added, or exchanged with the next one.
func paths(g *rand.Rand, p api.Proof) []api.Proof {
	var l []api.Proof
	add := func(path []api.Sum) { l = append(l, api.Proof{Path: path, End: p.End, Leaf: p.Leaf}) }
	for i := range len(p.Path) + 1 {
		add(slices.Insert(slices.Clone(p.Path), i, api.Sum{}))
		add(slices.Insert(slices.Clone(p.Path), i, someSum(g)))
		if i == len(p.Path) {
			break
		}
		add(slices.Delete(slices.Clone(p.Path), i, i+1))
		add(slices.Insert(slices.Clone(p.Path), i, p.Path[i]))
		x, y := slices.Clone(p.Path), slices.Clone(p.Path)
		x[i][g.Intn(32)] ^= 1 << g.Intn(8)
		add(x)
		if i > 0 {
			y[i-1], y[i] = y[i], y[i-1]
			add(y)
		}
	}
	return l
}

// odd returns proofs that are like the one for a key, and some that are nothing like it.
func odd(g *rand.Rand, l []api.Leaf, key string) []api.Proof {
	p := proofOf(l, key)
	leaves := []api.Leaf{{}, {Key: key}, {Key: key, Val: p.Leaf.Val}, {Val: p.Leaf.Val}, {Key: p.Leaf.Key, Val: someSum(g)}, {Key: someKey(g), Val: p.Leaf.Val}, leaf(someKey(g), 1)}
	if len(l) > 0 {
		leaves = append(leaves, pick(g, l))
	}
	found := append(ends(p, leaves...), paths(g, p)...)
	return append(found, proofOf(l, someKey(g)), proofOf(edited(g, l, 2), key))
}

// P4.1 (D4), and P1 of the document: proofs of all kinds are accepted or refused as the chapter says, for the root, for the one that they lead to, and for others.
func TestCheck(t *testing.T) {
	g := rand.New(rand.NewSource(5))
	accepted, refused := 0, 0
	for _, l := range lists() {
		root := hashAt(l, 0)
		for _, key := range []string{"", someKey(g), someKey(g), closePairs()[0][1]} {
			for _, p := range odd(g, l, key) {
				for _, r := range []api.Sum{root, rootBy(key, p), {}, someSum(g)} {
					got, want := ask(r, key, p), hashing(strong).check(r, key, p)
					if got != want {
						t.Fatalf("Check of %x, %q and %v: %v, not %v", r, key, p, got, want)
					}
					if got.ok {
						accepted++
					} else {
						refused++
					}
				}
			}
		}
	}
	if accepted < 1000 || refused < 1000 {
		t.Errorf("%d proofs are accepted, and %d are refused", accepted, refused)
	}
}

// P4.1 (D4): a Path of 256 elements is accepted, with each End that fits, and one of 257 is not.
func TestLongPaths(t *testing.T) {
	g := rand.New(rand.NewSource(6))
	key := "a"
	for _, n := range []int{0, 1, 7, 8, 9, 255, 256, 257, 258, 512, 5000} {
		p := api.Proof{}
		for range n {
			p.Path = append(p.Path, someSum(g))
		}
		for _, e := range []api.Proof{{End: api.Nothing}, {End: api.Same, Leaf: leaf(key, 3)}, {End: api.Other, Leaf: leaf("b", 3)}} {
			e.Path = p.Path
			if n <= 256 {
				want := shown{ok: true}
				switch {
				case e.End == api.Same:
					want = shown{e.Leaf.Val, true, true}
				case e.End == api.Other && n > agreeing(key, "b"):
					want = shown{}
				}
				if got := ask(rootBy(key, e), key, e); got != want {
					t.Errorf("a Path of %d elements, and the End %d: %v", n, e.End, got)
				}
				continue
			}
			// Whatever the bits behind the last one might be thought to be, the root is refused.
			cut := api.Proof{Path: e.Path[:256], End: e.End, Leaf: e.Leaf}
			for _, r := range []api.Sum{{}, rootBy(key, cut), rootLong(key, e, '0'), rootLong(key, e, '1')} {
				if got := ask(r, key, e); got != (shown{}) {
					t.Errorf("a Path of %d elements, and the End %d: %v", n, e.End, got)
				}
			}
		}
	}
}

// rootLong returns the root that is found with a Path of more than 256 elements, if all bits behind the last one are the digit.
func rootLong(key string, p api.Proof, digit byte) api.Sum {
	h := hashing(strong)
	var s api.Sum
	if p.End != api.Nothing {
		s = h.of('L', p.Leaf.Key, text(p.Leaf.Val))
	}
	for i := len(p.Path) - 1; i >= 256; i-- {
		if digit == '0' {
			s = h.of('N', text(s), text(p.Path[i]))
		} else {
			s = h.of('N', text(p.Path[i]), text(s))
		}
	}
	b := bitsOf(key)
	for i := 255; i >= 0; i-- {
		if b[i] == '0' {
			s = h.of('N', text(s), text(p.Path[i]))
		} else {
			s = h.of('N', text(p.Path[i]), text(s))
		}
	}
	return s
}

// P4.1 (D4): another leaf is accepted up to the number of bits in which its key agrees, though the root is found with more.
func TestOtherLeaf(t *testing.T) {
	g := rand.New(rand.NewSource(7))
	pairs := append(closePairs()[:5:5], [2]string{"a", "b"}, [2]string{"a", "d"}, [2]string{"d", "a"}, [2]string{"", "a"}, [2]string{"a", ""})
	for _, c := range pairs {
		n := agreeing(c[0], c[1])
		p := api.Proof{End: api.Other, Leaf: leaf(c[0], 8)}
		for len(p.Path) < 40 {
			got := ask(rootBy(c[1], p), c[1], p)
			if want := (shown{ok: len(p.Path) <= n}); got != want {
				t.Errorf("%q for %q, which agree in %d bits, with a Path of %d elements: %v", c[0], c[1], n, len(p.Path), got)
			}
			// The same leaf for its own key is none that is another one.
			if got := ask(rootBy(c[0], p), c[0], p); got != (shown{}) {
				t.Errorf("%q as another leaf than itself: %v", c[0], got)
			}
			p.Path = append(p.Path, someSum(g))
		}
	}
}

// P4.1 (D4): with the End Nothing, the leaf is the zero value, and with no other one.
func TestEndNothing(t *testing.T) {
	for _, l := range [][]api.Leaf{nil, list(leaf("a", 1)), many(20)} {
		for _, key := range []string{"", "b", "k3", "k300"} {
			p := proofOf(l, key)
			p.End, p.Leaf = api.Nothing, api.Leaf{}
			root := rootBy(key, p)
			if got := ask(root, key, p); got != (shown{ok: true}) {
				t.Errorf("nothing at %q: %v", key, got)
			}
			for _, x := range []api.Leaf{{Key: "\x00"}, {Key: key + "x"}, {Val: api.Sum{1}}, {Val: api.Sum{31: 1}}, leaf(key, 1)} {
				p.Leaf = x
				if got := ask(root, key, p); got != (shown{}) {
					t.Errorf("nothing at %q, with the leaf %q: %v", key, x, got)
				}
			}
		}
	}
}

// P4.8: proofs that have another End, or another Path, are refused.
func TestRefusals(t *testing.T) {
	g := rand.New(rand.NewSource(8))
	for _, l := range lists() {
		root := merkle.Root(l)
		for _, key := range keysFor(g, l)[:min(len(l)+6, 20)] {
			p := merkle.Prove(l, key)
			if !ask(root, key, p).ok {
				t.Fatalf("%q: the proof for %q is refused", l, key)
			}
			others := paths(g, p)
			for _, e := range ends(p, api.Leaf{}) {
				if e.End != p.End {
					others = append(others, e)
				}
			}
			others = append(others, lengthened(p, 256), lengthened(p, 257))
			for _, e := range others {
				if slices.Equal(e.Path, p.Path) && e.End == p.End {
					continue // two elements that are equal were exchanged
				}
				if got := ask(root, key, e); got != (shown{}) {
					t.Fatalf("%q: for %q, %v is accepted in the place of %v: %v", l, key, e, p, got)
				}
			}
		}
	}
}

// lengthened returns p with a Path of n elements, of which the last ones are zeros.
func lengthened(p api.Proof, n int) api.Proof {
	p.Path = append(slices.Clone(p.Path), make([]api.Sum, n-len(p.Path))...)
	return p
}

// P4.8: the proof for a key that is there is refused for all other keys, and that for one that is not there for those that have other proofs.
func TestOtherKeys(t *testing.T) {
	g := rand.New(rand.NewSource(9))
	refused := 0
	for _, l := range lists() {
		root := merkle.Root(l)
		keys := keysFor(g, l)
		keys = keys[:min(len(keys), 24)]
		proofs := map[string]api.Proof{}
		for _, key := range keys {
			proofs[key] = merkle.Prove(l, key)
		}
		for _, key := range keys {
			for _, other := range keys {
				p := proofs[other]
				got := ask(root, key, p)
				if sameProof(p, proofs[key]) != got.ok || key != other && p.End == api.Same && got.ok || !got.ok && got != (shown{}) {
					t.Fatalf("%q: the proof for %q, as one for %q: %v", l, other, key, got)
				}
				if !got.ok {
					refused++
				}
			}
		}
	}
	if refused < 1000 {
		t.Errorf("only %d proofs for other keys are refused", refused)
	}
}

// P4.8: proofs are refused for the roots of trees in which another leaf is changed, or this one.
func TestOtherRoots(t *testing.T) {
	g := rand.New(rand.NewSource(10))
	for _, l := range lists() {
		root := merkle.Root(l)
		for range 5 {
			other, key := edited(g, l, 2), someKey(g)
			if slices.Equal(l, other) {
				continue
			}
			p, q := merkle.Prove(l, key), merkle.Prove(other, key)
			if ask(merkle.Root(other), key, p).ok || ask(root, key, q).ok {
				t.Fatalf("a proof for %q in one of %q and %q is accepted for both", key, l, other)
			}
		}
		for i := range root {
			bad := root
			bad[i] ^= 1 << g.Intn(8)
			if key := someKey(g); ask(bad, key, merkle.Prove(l, key)).ok {
				t.Fatalf("%q: a proof for %q is accepted for another root", l, key)
			}
		}
	}
}

package merkle_test

import (
	"math/rand"
	"slices"
	"testing"

	"burgage/api"
	"burgage/merkle"
)

// clash names, of two proofs that lead to one root for a key and tell different things, two different lists of bytes with the same hash, or one (and no other) whose hash is 32 bytes 0.
func (h hashing) clash(key string, p, q api.Proof) (string, string, bool) {
	a, b := h.steps(key, p), h.steps(key, q)
	slices.Reverse(a)
	slices.Reverse(b)
	for i := range min(len(a), len(b)) {
		x, y := a[i], b[i]
		switch {
		case x.bytes == y.bytes:
			continue
		case x.bytes == "" || y.bytes == "":
			return x.bytes + y.bytes, "", true
		}
		return x.bytes, y.bytes, true
	}
	return "", "", false
}

// isClash reports whether two lists of bytes are what clash promises.
func (h hashing) isClash(x, y string) bool {
	if y == "" {
		return h([]byte(x)) == api.Sum{}
	}
	return x != y && h([]byte(x)) == h([]byte(y))
}

// P4.3: with a hash so weak that proofs of all kinds are accepted for one root, two that tell different things always name bytes that hash alike. The chapter's way of checking, which is done here, is that of Check (TestCheck).
func TestBindingWithWeakHash(t *testing.T) {
	weak := hashing(func(b []byte) api.Sum { return api.Sum{strong(b)[0] & 3} })
	g := rand.New(rand.NewSource(11))
	some := func() api.Sum { return api.Sum{byte(g.Intn(4))} }
	clashes := 0
	for range 400 {
		key := someKey(g)
		told := map[api.Sum][]api.Proof{}
		for range 40 {
			p := api.Proof{End: g.Intn(3)}
			for range g.Intn(5) {
				p.Path = append(p.Path, some())
			}
			switch p.End {
			case api.Same:
				p.Leaf = api.Leaf{Key: key, Val: some()}
			case api.Other:
				p.Leaf = api.Leaf{Key: someKey(g), Val: some()}
			}
			l := weak.steps(key, p)
			root := l[len(l)-1].hash
			says := weak.check(root, key, p)
			if !says.ok {
				continue
			}
			for _, q := range told[root] {
				if weak.check(root, key, q) == says {
					continue
				}
				clashes++
				if x, y, is := weak.clash(key, p, q); !is || !weak.isClash(x, y) {
					t.Fatalf("for %q, %v and %v tell different things, but %q and %q are named", key, p, q, x, y)
				}
			}
			told[root] = append(told[root], p)
		}
	}
	if clashes < 1000 {
		t.Errorf("only %d pairs of proofs tell different things", clashes)
	}
}

// P4.3: all proofs that are accepted for one root and key tell the same, for roots of trees, and for those that only the proofs themselves lead to.
func TestBinding(t *testing.T) {
	type asked struct {
		root api.Sum
		key  string
	}
	g := rand.New(rand.NewSource(12))
	told := map[asked]api.Proof{}
	again := 0
	for _, l := range lists() {
		root := merkle.Root(l)
		for _, key := range []string{"", "k1", someKey(g), closePairs()[1][0]} {
			for _, p := range slices.Concat(odd(g, l, key), odd(g, edited(g, l, 1), key)) {
				for _, r := range []api.Sum{root, rootBy(key, p)} {
					got := ask(r, key, p)
					if !got.ok {
						continue
					}
					q, is := told[asked{r, key}]
					if !is {
						told[asked{r, key}] = p
					} else if says := ask(r, key, q); got != says {
						x, y, _ := hashing(strong).clash(key, p, q)
						t.Fatalf("for %q, %v and %v tell different things; %q and %q", key, p, q, x, y)
					} else {
						again++
					}
				}
			}
		}
	}
	if again < 1000 {
		t.Errorf("only %d proofs tell the same as others", again)
	}
}

// P4.3: no leaf is taken for a node with two halves, nor one for a leaf: their bytes differ, though their parts are the same.
func TestLeavesThatLookLikeNodes(t *testing.T) {
	for _, l := range lists() {
		if !parted(l, 0) {
			continue
		}
		x, y := hashAt(half(l, 0, '0'), 1), hashAt(half(l, 0, '1'), 1)
		root, like := merkle.Root(l), api.Leaf{Key: text(x), Val: y}
		if merkle.Root(list(like)) == root {
			t.Fatalf("%q has the root of the leaf %q", l, like)
		}
		if got := ask(root, like.Key, api.Proof{End: api.Same, Leaf: like}); got != (shown{}) {
			t.Fatalf("%q: it is shown that there is only %q: %v", l, like, got)
		}
		if got := ask(merkle.Root(list(like)), l[0].Key, merkle.Prove(l, l[0].Key)); got != (shown{}) {
			t.Fatalf("there is only %q, but %q is shown: %v", like, l[0], got)
		}
	}
}

// P4.3: for the root 32 bytes 0, it is only accepted that there is nothing.
func TestRootOfZeros(t *testing.T) {
	g := rand.New(rand.NewSource(13))
	for _, l := range lists() {
		for _, key := range []string{"", someKey(g)} {
			for _, p := range odd(g, l, key) {
				want := shown{ok: len(p.Path) == 0 && p.End == api.Nothing && p.Leaf == api.Leaf{}}
				if got := ask(api.Sum{}, key, p); got != want {
					t.Fatalf("Check of zeros, %q and %v: %v", key, p, got)
				}
			}
		}
	}
}

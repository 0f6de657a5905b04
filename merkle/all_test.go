package merkle_test

import (
	"math/rand"
	"slices"
	"strings"
	"sync"
	"testing"

	"burgage/api"
	"burgage/merkle"
)

// answers has the results of all functions for some arguments.
type answers struct {
	root      api.Sum
	proof     api.Proof
	says      shown
	found     []string
	pairs     int
	put, drop []api.Leaf
	valid     bool
}

// answersOf asks all functions; p is a proof of any kind.
func answersOf(a, b []api.Leaf, x api.Leaf, p api.Proof) answers {
	s := answers{root: merkle.Root(a), proof: merkle.Prove(a, x.Key), put: merkle.Put(a, x), drop: merkle.Drop(a, x.Key), valid: merkle.Valid(a)}
	s.says = ask(s.root, x.Key, p)
	s.found, s.pairs = merkle.Diff(a, b)
	return s
}

func (s answers) equal(t answers) bool {
	return s.root == t.root && sameProof(s.proof, t.proof) && s.says == t.says && slices.Equal(s.found, t.found) && s.pairs == t.pairs &&
		slices.Equal(s.put, t.put) && slices.Equal(s.drop, t.drop) && s.valid == t.valid
}

// roomy returns a copy of l with room behind it, and all of that memory, in which a stray element shows.
func roomy[T any](l []T, stray T) (part, whole []T) {
	whole = append(slices.Clone(l), stray, stray, stray, stray)
	return whole[:len(l)], whole
}

// D7, and P2 of the document: no argument is modified, nor the memory behind it, the same arguments have the same results, and these are new memory.
func TestArguments(t *testing.T) {
	g := rand.New(rand.NewSource(18))
	stray, straySum := leaf("stray", 77), api.Sum{77}
	for _, l := range lists() {
		other := edited(g, l, 3)
		for _, key := range keysFor(g, l)[:6] {
			x, p := api.Leaf{Key: key, Val: someSum(g)}, pick(g, odd(g, l, key))
			a, wholeA := roomy(l, stray)
			b, wholeB := roomy(other, stray)
			path, wholePath := roomy(p.Path, straySum)
			keptA, keptB, keptPath := slices.Clone(wholeA), slices.Clone(wholeB), slices.Clone(wholePath)
			got := answersOf(a, b, x, api.Proof{Path: path, End: p.End, Leaf: p.Leaf})
			if again := answersOf(l, other, x, p); !got.equal(again) {
				t.Fatalf("%q, %q, %q, %v: %v, and again %v", l, other, x, p, got, again)
			}
			for _, r := range [][]api.Leaf{got.put, got.drop} {
				for i := range r[:cap(r)] {
					r[:cap(r)][i] = stray
				}
			}
			for i := range got.proof.Path {
				got.proof.Path[i] = straySum
			}
			if !slices.Equal(wholeA, keptA) || !slices.Equal(wholeB, keptB) || !slices.Equal(wholePath, keptPath) {
				t.Fatalf("%q, %q, %q, %v: an argument has changed", l, other, x, p)
			}
			if again := answersOf(a, b, x, p); !again.equal(answersOf(l, other, x, p)) {
				t.Fatalf("%q, %q, %q, %v: what was done with results matters", l, other, x, p)
			}
		}
	}
}

// P1 of the document, and D1: lists that are not valid are told, and no function fails to end with them, or panics.
func TestListsThatAreNotValid(t *testing.T) {
	g := rand.New(rand.NewSource(19))
	same := slices.Repeat(list(leaf("a", 1)), 300)
	lists := [][]api.Leaf{
		same, append(same[:2:2], leaf("a", 2)), {leaf("b", 1), leaf("a", 1)}, {{}, {}}, {leaf("a", 1), {}}, append(many(9), many(9)...),
	}
	for range 40 {
		l := append(someList(g, 5), someList(g, 5)...)
		if g.Intn(2) == 0 {
			l = append(l, leaf("a", 1), leaf("a", 2))
		}
		slices.Reverse(l)
		lists = append(lists, append(l, leaf("", 5), leaf("", 6)))
	}
	for i, l := range lists {
		if merkle.Valid(l) {
			t.Errorf("%q is valid", l)
		}
		p := merkle.Prove(l, "a")
		for _, other := range [][]api.Leaf{l, nil, many(3), lists[(i+1)%len(lists)]} {
			answersOf(l, other, leaf("a", 3), p)
			answersOf(other, l, leaf("zzz", 3), p)
		}
	}
}

// P1 of the document: very long keys, and proofs that are very long.
func TestLongArguments(t *testing.T) {
	long := strings.Repeat("x", 1<<20)
	l := list(leaf(long, 1), leaf(long+"x", 2), leaf(long[1:], 3))
	for _, x := range l {
		if got := ask(merkle.Root(l), x.Key, merkle.Prove(l, x.Key)); got != (shown{x.Val, true, true}) {
			t.Errorf("a key of %d bytes: %v", len(x.Key), got)
		}
	}
	if got := ask(merkle.Root(l), long, api.Proof{Path: make([]api.Sum, 1<<20), End: api.Other, Leaf: l[0]}); got != (shown{}) {
		t.Errorf("a Path of 2^20 elements: %v", got)
	}
}

// P2 of the document: what is asked at the same time does not matter.
func TestAtOnce(t *testing.T) {
	g := rand.New(rand.NewSource(20))
	l, other := many(40), edited(g, many(40), 9)
	p := merkle.Prove(l, "k7")
	want := answersOf(l, other, leaf("k7", 1), p)
	wrong := make([]bool, 8)
	var wait sync.WaitGroup
	for i := range wrong {
		wait.Go(func() {
			for range 20 {
				wrong[i] = wrong[i] || !answersOf(l, other, leaf("k7", 1), p).equal(want)
			}
		})
	}
	wait.Wait()
	if slices.Contains(wrong, true) {
		t.Error("there were other results")
	}
}

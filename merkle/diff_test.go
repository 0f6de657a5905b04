package merkle_test

import (
	"math/rand"
	"slices"
	"strconv"
	"testing"

	"burgage/api"
	"burgage/merkle"
)

// keysOf returns the keys of l.
func keysOf(l []api.Leaf) []string {
	var keys []string
	for _, x := range l {
		keys = append(keys, x.Key)
	}
	return keys
}

// P4.1 (D5): the examples of the chapter, and trees with no leaves, or one leaf, beside others, for which the roots alone are compared.
func TestDiffExamples(t *testing.T) {
	a, l := leaf("a", 1), many(50)
	with := merkle.Put(l, leaf("x", 1))
	for _, x := range []struct {
		a, b []api.Leaf
		want []string
	}{
		{nil, list(a), []string{"a"}},
		{list(a), nil, []string{"a"}},
		{nil, nil, nil},
		{nil, []api.Leaf{}, nil},
		{list(a), list(a), nil},
		{list(a), list(leaf("a", 2)), []string{"a"}},
		{list(a), list(leaf("b", 1)), []string{"a", "b"}},
		{list(leaf("b", 1)), list(a), []string{"a", "b"}},
		{nil, list(api.Leaf{}), []string{""}},
		{list(api.Leaf{}), list(leaf("", 1)), []string{""}},
		{list(api.Leaf{}), list(leaf("\x00", 0)), []string{"", "\x00"}},
		{l, l, nil},
		{l, slices.Clone(l), nil},
		{nil, l, keysOf(l)},
		{l, nil, keysOf(l)},
		{list(a), l, append([]string{"a"}, keysOf(l)...)},
		{with, list(leaf("x", 1)), keysOf(l)},
		{list(leaf("x", 2)), with, append(keysOf(l), "x")},
	} {
		got, pairs := merkle.Diff(x.a, x.b)
		if !slices.Equal(got, x.want) || pairs != 1 {
			t.Errorf("Diff of %q and %q: %q, %d", x.a, x.b, got, pairs)
		}
	}
}

// P4.1 (D5): two trees with two leaves each, which are compared down to the depth at which their keys part.
func TestDiffOfKeysThatAgree(t *testing.T) {
	for _, c := range closePairs()[:10] {
		n := agreeing(c[0], c[1])
		was := list(leaf(c[0], 1), leaf(c[1], 1))
		for _, x := range []struct {
			now   []api.Leaf
			want  []string
			pairs int
		}{
			{list(leaf(c[0], 1), leaf(c[1], 2)), c[1:], 2*n + 3},
			{list(leaf(c[0], 2), leaf(c[1], 1)), c[:1], 2*n + 3},
			{list(leaf(c[0], 2), leaf(c[1], 2)), keysOf(was), 2*n + 3},
			{list(leaf(c[0], 1)), c[1:], 1},
			{list(leaf(c[0], 2)), keysOf(was), 1},
		} {
			if got, pairs := merkle.Diff(was, x.now); !slices.Equal(got, x.want) || pairs != x.pairs {
				t.Errorf("Diff of %q and %q, which agree in %d bits: %q, %d", was, x.now, n, got, pairs)
			}
		}
	}
}

// P4.1 (D5), P4.5 and P4.6: trees of all kinds, of which one often comes from the other: the keys are those whose leaves differ, and the pairs those of the chapter, and not too many.
func TestDiff(t *testing.T) {
	g := rand.New(rand.NewSource(14))
	all := lists()
	for i, a := range all {
		for _, b := range [][]api.Leaf{edited(g, a, 1), edited(g, a, 4), edited(g, a, 10), all[(7*i+5)%len(all)], pick(g, all)} {
			want, wantPairs := differing(a, b), pairsOf(a, b, 0)
			got, pairs := merkle.Diff(a, b)
			if !slices.Equal(got, want) || pairs != wantPairs {
				t.Fatalf("Diff of %q and %q: %q, %d, not %q, %d", a, b, got, pairs, want, wantPairs)
			}
			if pairs > 2*256*len(want)+1 {
				t.Fatalf("Diff of %q and %q: %d pairs", a, b, pairs)
			}
			again, pairsAgain := merkle.Diff(b, a)
			if !slices.Equal(again, got) || pairsAgain != pairs {
				t.Fatalf("Diff of %q and %q: %q, %d, and the other way round %q, %d", a, b, got, pairs, again, pairsAgain)
			}
		}
	}
}

// P4.5 and P4.6: of many leaves, few differ, and few pairs are compared; equal trees are compared at once.
func TestDiffOfManyLeaves(t *testing.T) {
	g := rand.New(rand.NewSource(15))
	l := many(4000)
	for _, n := range []int{0, 1, 2, 5, 40} {
		vals := valuesOf(l)
		for i := range n {
			switch key := "k" + strconv.Itoa(100*i+g.Intn(100)); i % 3 {
			case 0:
				vals[key] = api.Sum{9, byte(i)}
			case 1:
				delete(vals, key)
			default:
				vals["new"+key] = vals[key]
			}
		}
		now := listOf(vals)
		got, pairs := merkle.Diff(l, now)
		if want := differing(l, now); len(want) != n || !slices.Equal(got, want) {
			t.Errorf("Diff of %d changes: %q, not %q", n, got, want)
		}
		// A way in this tree has some 14 nodes, and beside each one another may be compared.
		if pairs > 2*40*n+1 || n == 0 && pairs != 1 || n > 0 && pairs < 2*n {
			t.Errorf("Diff of %d changes: %d pairs", n, pairs)
		}
	}
}

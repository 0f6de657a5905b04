package merkle_test

import (
	"math/rand"
	"slices"
	"testing"

	"burgage/api"
	"burgage/merkle"
)

// P4.1 (D6): keys that are there and keys that are not, at the beginning, in between and at the end.
func TestPutAndDropExamples(t *testing.T) {
	a, b, c := leaf("b", 1), leaf("d", 2), leaf("f", 3)
	l := list(a, b, c)
	for _, x := range []struct {
		l    []api.Leaf
		put  api.Leaf
		want []api.Leaf
		drop []api.Leaf
	}{
		{nil, a, list(a), nil},
		{nil, api.Leaf{}, []api.Leaf{{}}, nil},
		{[]api.Leaf{{}}, api.Leaf{}, []api.Leaf{{}}, nil},
		{list(a), leaf("b", 5), list(leaf("b", 5)), nil},
		{list(a), leaf("b", 0), list(leaf("b", 0)), nil},
		{l, leaf("", 9), list(leaf("", 9), a, b, c), l},
		{l, leaf("a", 9), list(leaf("a", 9), a, b, c), l},
		{l, leaf("b", 9), list(leaf("b", 9), b, c), list(b, c)},
		{l, leaf("b\x00", 9), list(a, leaf("b\x00", 9), b, c), l},
		{l, leaf("c", 9), list(a, leaf("c", 9), b, c), l},
		{l, leaf("d", 9), list(a, leaf("d", 9), c), list(a, c)},
		{l, leaf("e", 9), list(a, b, leaf("e", 9), c), l},
		{l, leaf("f", 9), list(a, b, leaf("f", 9)), list(a, b)},
		{l, leaf("g", 9), list(a, b, c, leaf("g", 9)), l},
		{l, leaf("\xff", 9), list(a, b, c, leaf("\xff", 9)), l},
		{l, b, l, list(a, c)},
	} {
		if got := merkle.Put(x.l, x.put); !slices.Equal(got, x.want) {
			t.Errorf("Put of %q into %q: %q", x.put, x.l, got)
		}
		if got := merkle.Drop(x.l, x.put.Key); !slices.Equal(got, x.drop) {
			t.Errorf("Drop of %q from %q: %q", x.put.Key, x.l, got)
		}
	}
}

// P4.1 (D6) and P4.7: lists stay valid, and one key alone changes.
func TestPutAndDrop(t *testing.T) {
	g := rand.New(rand.NewSource(16))
	for _, l := range lists() {
		for _, key := range keysFor(g, l) {
			x := api.Leaf{Key: key, Val: someSum(g)}
			put, drop := merkle.Put(l, x), merkle.Drop(l, key)
			vals := valuesOf(l)
			was, there := vals[key]
			delete(vals, key)
			if want := listOf(vals); !merkle.Valid(drop) || !slices.Equal(drop, want) {
				t.Fatalf("Drop of %q from %q: %q", key, l, drop)
			}
			vals[key] = x.Val
			if want := listOf(vals); !merkle.Valid(put) || !slices.Equal(put, want) {
				t.Fatalf("Put of %q into %q: %q", x, l, put)
			}
			if found, _ := merkle.Diff(l, put); len(found) > 1 || (len(found) == 1) != (!there || was != x.Val) || len(found) == 1 && found[0] != key {
				t.Fatalf("after Put of %q into %q, there differ %q", x, l, found)
			}
			if found, _ := merkle.Diff(l, drop); len(found) > 1 || (len(found) == 1) != there || there && found[0] != key {
				t.Fatalf("after Drop of %q from %q, there differ %q", key, l, found)
			}
		}
	}
}

// P4.7: the order of changes of different keys does not matter, and of changes of one key the last one counts.
func TestOrderOfChanges(t *testing.T) {
	g := rand.New(rand.NewSource(17))
	change := func() (string, func([]api.Leaf) []api.Leaf) {
		x := api.Leaf{Key: someKey(g), Val: someSum(g)}
		if g.Intn(2) == 0 {
			return x.Key, func(l []api.Leaf) []api.Leaf { return merkle.Drop(l, x.Key) }
		}
		return x.Key, func(l []api.Leaf) []api.Leaf { return merkle.Put(l, x) }
	}
	for _, l := range lists() {
		for range 40 {
			key, one := change()
			otherKey, other := change()
			got, want := other(one(l)), one(other(l))
			if key == otherKey {
				want = other(l)
			}
			if !slices.Equal(got, want) || merkle.Root(got) != merkle.Root(want) {
				t.Fatalf("%q after changes of %q and %q: %q and %q", l, key, otherKey, got, want)
			}
			if again := one(one(l)); !slices.Equal(again, one(l)) {
				t.Fatalf("%q after the same change of %q twice: %q", l, key, again)
			}
		}
	}
}

package span_test

import (
	"math/rand"
	"slices"
	"testing"

	"burgage/api"
	"burgage/span"
)

// P11.1 (K3), P11.3: single pairs of lists, and what the operations make of them written out.
func TestOperations(t *testing.T) {
	for _, e := range []struct{ a, b, union, meet, minus, rest []api.Span }{
		// Nothing, and spans without numbers.
		{nil, nil, nil, nil, nil, nil},
		{list(1, 5), nil, list(1, 5), nil, list(1, 5), nil},
		{list(1, 5), list(3, 3), list(1, 5), nil, list(1, 5), nil},
		{list(1, 5), list(4, 2), list(1, 5), nil, list(1, 5), nil},
		{list(3, 3), list(3, 3), nil, nil, nil, nil},
		{list(9, 2), list(1, 5), list(1, 5), nil, nil, list(1, 5)},
		{list(1, 1, 2, 4, 6, 5), list(3, 3, 2, 4, 4, 1), list(2, 4), list(2, 4), nil, nil},
		// A list and itself.
		{list(1, 5), list(1, 5), list(1, 5), list(1, 5), nil, nil},
		{list(1, 3, 5, 7), list(1, 3, 5, 7), list(1, 3, 5, 7), list(1, 3, 5, 7), nil, nil},
		{list(5, 7, 1, 3, 3, 4), list(5, 7, 1, 3, 3, 4), list(1, 4, 5, 7), list(1, 4, 5, 7), nil, nil},
		// Apart, and touching.
		{list(1, 3), list(5, 7), list(1, 3, 5, 7), nil, list(1, 3), list(5, 7)},
		{list(1, 3), list(4, 7), list(1, 3, 4, 7), nil, list(1, 3), list(4, 7)},
		{list(1, 3), list(3, 7), list(1, 7), nil, list(1, 3), list(3, 7)},
		{list(3, 7), list(1, 3), list(1, 7), nil, list(3, 7), list(1, 3)},
		{list(1, 3, 7, 9), list(3, 7), list(1, 9), nil, list(1, 3, 7, 9), list(3, 7)},
		// Overlapping, inside, and with the same beginning or end.
		{list(1, 5), list(3, 9), list(1, 9), list(3, 5), list(1, 3), list(5, 9)},
		{list(1, 9), list(3, 5), list(1, 9), list(3, 5), list(1, 3, 5, 9), nil},
		{list(1, 9), list(1, 5), list(1, 9), list(1, 5), list(5, 9), nil},
		{list(1, 9), list(5, 9), list(1, 9), list(5, 9), list(1, 5), nil},
		{list(1, 5), list(4, 5), list(1, 5), list(4, 5), list(1, 4), nil},
		{list(1, 5), list(1, 2), list(1, 5), list(1, 2), list(2, 5), nil},
		{list(1, 3, 5, 7), list(1, 2, 6, 7), list(1, 3, 5, 7), list(1, 2, 6, 7), list(2, 3, 5, 6), nil},
		{list(1, 3, 5, 7), list(3, 5, 7, 9), list(1, 9), nil, list(1, 3, 5, 7), list(3, 5, 7, 9)},
		{list(1, 3, 5, 7), list(2, 6), list(1, 7), list(2, 3, 5, 6), list(1, 2, 6, 7), list(3, 5)},
		{list(1, 9), list(2, 3, 5, 6), list(1, 9), list(2, 3, 5, 6), list(1, 2, 3, 5, 6, 9), nil},
		{list(-9, -5, -1, 1), list(-5, -1, 0, 4), list(-9, 4), list(0, 1), list(-9, -5, -1, 0), list(-5, -1, 1, 4)},
		// Lists that are no sets.
		{list(1, 3, 3, 5), list(2, 3, 3, 4), list(1, 5), list(2, 4), list(1, 2, 4, 5), nil},
		{list(5, 7, 1, 3), list(6, 9, 2, 4), list(1, 4, 5, 9), list(2, 3, 6, 7), list(1, 2, 5, 6), list(3, 4, 7, 9)},
		{list(1, 5, 2, 9, 1, 5), list(4, 6, 5, 7, 4, 5), list(1, 9), list(4, 7), list(1, 4, 7, 9), nil},
		{list(1, 5, 1, 5), list(3, 5), list(1, 5), list(3, 5), list(1, 3), nil},
		{list(3, 5), list(1, 5, 1, 5), list(1, 5), list(3, 5), nil, list(1, 3)},
		{list(1, 5, 3, 3, 9, 0), list(8, 2, 5, 6), list(1, 6), nil, list(1, 5), list(5, 6)},
	} {
		for i, pair := range [][2][]api.Span{
			{span.Union(e.a, e.b), e.union}, {span.Union(e.b, e.a), e.union},
			{span.Meet(e.a, e.b), e.meet}, {span.Meet(e.b, e.a), e.meet},
			{span.Minus(e.a, e.b), e.minus}, {span.Minus(e.b, e.a), e.rest},
		} {
			if !slices.Equal(pair[0], pair[1]) {
				t.Errorf("%v, %v, result %d: %v, not %v", e.a, e.b, i, pair[0], pair[1])
			}
		}
	}
}

// checkOperations compares the operations on two lists with the model.
func checkOperations(t *testing.T, a, b []api.Span) {
	t.Helper()
	if got, want := span.Union(a, b), union(a, b); !slices.Equal(got, want) {
		t.Fatalf("Union of %v and %v: %v, not %v", a, b, got, want)
	}
	if got, want := span.Meet(a, b), meet(a, b); !slices.Equal(got, want) {
		t.Fatalf("Meet of %v and %v: %v, not %v", a, b, got, want)
	}
	if got, want := span.Minus(a, b), minus(a, b); !slices.Equal(got, want) {
		t.Fatalf("Minus of %v and %v: %v, not %v", a, b, got, want)
	}
}

// P11.1 (K3), P11.3: all pairs of lists of up to two spans with bounds from 0 to 3.
func TestOperationsOnAll(t *testing.T) {
	lists := everyList(2, 3)
	for _, a := range lists {
		for _, b := range lists {
			checkOperations(t, a, b)
		}
	}
}

// P11.1 (K3), P11.3: long lists, each also with itself and with nothing.
func TestOperationsOnSome(t *testing.T) {
	g := rand.New(rand.NewSource(21))
	for range 5000 {
		a, b := someList(g, 10, 20), someList(g, 10, 20)
		checkOperations(t, a, b)
		checkOperations(t, a, a)
		checkOperations(t, a, nil)
		checkOperations(t, nil, a)
	}
}

// P11.3: each number is in the results exactly if it should be, and they are sets.
func TestNumbersOfOperations(t *testing.T) {
	g := rand.New(rand.NewSource(22))
	for range 5000 {
		a, b := someList(g, 6, 12), someList(g, 6, 12)
		u, m, d := span.Union(a, b), span.Meet(a, b), span.Minus(a, b)
		if !span.Valid(u) || !span.Valid(m) || !span.Valid(d) {
			t.Fatalf("%v, %v: %v, %v, %v are not all sets", a, b, u, m, d)
		}
		for n := -window; n <= window; n++ {
			p, q := span.Has(a, n), span.Has(b, n)
			if span.Has(u, n) != (p || q) || span.Has(m, n) != (p && q) || span.Has(d, n) != (p && !q) {
				t.Fatalf("%v, %v at %d: %v, %v, %v", a, b, n, u, m, d)
			}
		}
	}
}

// law is an equation of sets; it has a name for messages.
type law struct {
	name        string
	left, right []api.Span
}

// laws returns the laws of sets for three lists.
func laws(a, b, c []api.Span) []law {
	or, and, not, set := span.Union, span.Meet, span.Minus, span.Norm
	return []law{
		{"a or a is a", or(a, a), set(a)},
		{"a and a is a", and(a, a), set(a)},
		{"a without a is nothing", not(a, a), nil},
		{"a or nothing is a", or(a, nil), set(a)},
		{"nothing or a is a", or(nil, a), set(a)},
		{"a and nothing is nothing", and(a, nil), nil},
		{"nothing and a is nothing", and(nil, a), nil},
		{"a without nothing is a", not(a, nil), set(a)},
		{"nothing without a is nothing", not(nil, a), nil},
		{"or in another order", or(a, b), or(b, a)},
		{"and in another order", and(a, b), and(b, a)},
		{"or of three", or(or(a, b), c), or(a, or(b, c))},
		{"and of three", and(and(a, b), c), and(a, and(b, c))},
		{"and over or", and(a, or(b, c)), or(and(a, b), and(a, c))},
		{"or over and", or(a, and(b, c)), and(or(a, b), or(a, c))},
		{"a with what both have is a", or(a, and(a, b)), set(a)},
		{"a within what one of both has is a", and(a, or(a, b)), set(a)},
		{"without one of both", not(a, or(b, c)), and(not(a, b), not(a, c))},
		{"without both", not(a, and(b, c)), or(not(a, b), not(a, c))},
		{"without one after the other", not(not(a, b), c), not(a, or(b, c))},
		{"without what is left", not(a, not(a, b)), and(a, b)},
		{"the parts of a", or(and(a, b), not(a, b)), set(a)},
		{"they are apart", and(and(a, b), not(a, b)), nil},
		{"b and what a has beside it", or(not(a, b), b), or(a, b)},
		{"they are apart", and(not(a, b), b), nil},
		{"without over or", not(or(a, b), c), or(not(a, c), not(b, c))},
		{"without over and", not(and(a, b), c), and(not(a, c), b)},
		{"what one of both alone has", or(not(a, b), not(b, a)), not(or(a, b), and(a, b))},
	}
}

// P11.4: the laws of sets, for any lists.
func TestLaws(t *testing.T) {
	g := rand.New(rand.NewSource(23))
	for range 5000 {
		a, b, c := someList(g, 6, 12), someList(g, 6, 12), someList(g, 6, 12)
		for _, x := range laws(a, b, c) {
			if !slices.Equal(x.left, x.right) {
				t.Fatalf("%s: %v, %v, %v: %v is not %v", x.name, a, b, c, x.left, x.right)
			}
		}
	}
}

// P11.4: the laws of sets, for all choices of small lists.
func TestLawsOfAll(t *testing.T) {
	lists := slices.Concat(everyList(1, 3), [][]api.Span{list(0, 1, 2, 3), list(2, 3, 0, 1), list(0, 2, 2, 3), list(0, 2, 1, 3), list(0, 3, 0, 3)})
	for _, a := range lists {
		for _, b := range lists {
			for _, c := range lists {
				for _, x := range laws(a, b, c) {
					if !slices.Equal(x.left, x.right) {
						t.Fatalf("%s: %v, %v, %v: %v is not %v", x.name, a, b, c, x.left, x.right)
					}
				}
			}
		}
	}
}

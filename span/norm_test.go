package span_test

import (
	"math/rand"
	"slices"
	"testing"

	"burgage/api"
	"burgage/span"
)

// P11.1 to P11.3, P11.5: the examples of the chapter.
func TestExamples(t *testing.T) {
	if got := span.Norm(list(3, 5, 1, 3, 7, 7)); !slices.Equal(got, list(1, 5)) {
		t.Errorf("Norm: %v", got)
	}
	if got := span.Union(list(1, 3), list(5, 7)); !slices.Equal(got, list(1, 3, 5, 7)) {
		t.Errorf("Union: %v", got)
	}
	if got := span.Meet(list(1, 3, 5, 7), list(2, 6)); !slices.Equal(got, list(2, 3, 5, 6)) {
		t.Errorf("Meet: %v", got)
	}
	if got := span.Minus(list(1, 9), list(2, 6)); !slices.Equal(got, list(1, 2, 6, 9)) {
		t.Errorf("Minus: %v", got)
	}
	for x, want := range map[api.Span]bool{of(2, 5): true, of(4, 6): false, of(9, 9): true} {
		if got := span.Covers(list(1, 5), x); got != want {
			t.Errorf("Covers of %v: %v", x, got)
		}
	}
}

// shapes are lists, each with its set.
func shapes() [][2][]api.Span {
	return [][2][]api.Span{
		// No numbers.
		{nil, nil},
		{[]api.Span{}, nil},
		{list(0, 0), nil},
		{list(3, 3), nil},
		{list(5, 2), nil},
		{list(-2, -5), nil},
		{list(3, 3, 5, 2, 4, 4), nil},
		// Sets.
		{list(0, 1), list(0, 1)},
		{list(-7, 4), list(-7, 4)},
		{list(1, 3, 4, 5), list(1, 3, 4, 5)},
		{list(-9, -3, 0, 1, 6, 9), list(-9, -3, 0, 1, 6, 9)},
		// Almost sets: they touch, or stand the wrong way round.
		{list(1, 3, 3, 5), list(1, 5)},
		{list(1, 3, 5, 6, 6, 7), list(1, 3, 5, 7)},
		{list(1, 2, 2, 3, 3, 4), list(1, 4)},
		{list(4, 5, 1, 3), list(1, 3, 4, 5)},
		{list(3, 5, 1, 3), list(1, 5)},
		{list(1, 2, 6, 9, 4, 5), list(1, 2, 4, 5, 6, 9)},
		// Spans without numbers at the ends and between others.
		{list(0, 0, 1, 3), list(1, 3)},
		{list(1, 1, 1, 3), list(1, 3)},
		{list(1, 3, 3, 3), list(1, 3)},
		{list(1, 3, 7, 7), list(1, 3)},
		{list(1, 3, 2, 2), list(1, 3)},
		{list(1, 3, 5, 5, 7, 9), list(1, 3, 7, 9)},
		{list(1, 3, 3, 3, 3, 5), list(1, 5)},
		{list(9, 0, 1, 3), list(1, 3)},
		{list(1, 3, 9, 0), list(1, 3)},
		{list(1, 3, 9, 0, 5, 7), list(1, 3, 5, 7)},
		{list(1, 3, 5, 3, 5, 7), list(1, 3, 5, 7)},
		{list(1, 9, 6, 4), list(1, 9)},
		// Spans that overlap at one end, lie inside others, or are equal.
		{list(1, 4, 3, 6), list(1, 6)},
		{list(3, 6, 1, 4), list(1, 6)},
		{list(1, 9, 3, 5), list(1, 9)},
		{list(3, 5, 1, 9), list(1, 9)},
		{list(1, 9, 1, 5), list(1, 9)},
		{list(1, 9, 5, 9), list(1, 9)},
		{list(1, 5, 1, 9, 5, 9), list(1, 9)},
		{list(1, 9, 2, 3, 4, 5, 8, 11), list(1, 11)},
		{list(1, 3, 1, 3), list(1, 3)},
		{list(1, 3, 5, 7, 1, 3, 5, 7), list(1, 3, 5, 7)},
		{list(1, 3, 5, 7, 2, 6), list(1, 7)},
		{list(1, 3, 5, 7, 3, 5), list(1, 7)},
	}
}

// P11.1 (K1, K2), P11.2: single lists, and their sets written out.
func TestShapes(t *testing.T) {
	for _, e := range shapes() {
		l, set := e[0], e[1]
		if got := span.Norm(l); !slices.Equal(got, set) {
			t.Errorf("Norm of %v: %v, not %v", l, got, set)
		}
		if !span.Valid(set) || span.Valid(l) != slices.Equal(l, set) {
			t.Errorf("Valid of %v: %v, and of %v: %v", l, span.Valid(l), set, span.Valid(set))
		}
	}
}

// P11.1 (K1): what makes a list no set, at each of its places.
func TestValid(t *testing.T) {
	good := list(-9, -6, -4, -3, 0, 2, 5, 9)
	if !span.Valid(good) {
		t.Fatalf("%v is not valid", good)
	}
	for i, x := range good {
		bad := []api.Span{of(x.Lo, x.Lo), of(x.Hi, x.Hi), of(x.Hi, x.Lo)}
		if i > 0 {
			bad = append(bad, of(good[i-1].Hi, x.Hi), of(good[i-1].Hi-1, x.Hi), good[i-1], good[0])
		}
		if i < len(good)-1 {
			bad = append(bad, of(x.Lo, good[i+1].Lo), of(x.Lo, good[i+1].Lo+1), good[i+1])
		}
		for _, y := range bad {
			l := slices.Clone(good)
			l[i] = y
			if span.Valid(l) {
				t.Errorf("%v is valid", l)
			}
		}
		if !span.Valid(good[i:]) || !span.Valid(good[:i]) || !span.Valid(slices.Delete(slices.Clone(good), i, i+1)) {
			t.Errorf("what is left of %v at %d is not valid", good, i)
		}
	}
	if !span.Valid(list(0, 1, 2, 3, 4, 5)) || span.Valid(list(0, 1, 1, 2)) {
		t.Error("a number between two spans parts them, and nothing else does")
	}
}

// P11.1 (K1, K2), P11.2: all lists of up to three spans with bounds from 0 to 4.
func TestNormOfAll(t *testing.T) {
	for _, l := range everyList(3, 4) {
		want := norm(l)
		if got := span.Norm(l); !slices.Equal(got, want) {
			t.Fatalf("Norm of %v: %v, not %v", l, got, want)
		}
		if got := span.Valid(l); got != slices.Equal(l, want) {
			t.Fatalf("Valid of %v: %v", l, got)
		}
	}
}

// P11.2: of all lists, for each choice of numbers exactly one is a set, and it is the one that Norm returns.
func TestOneSetForSomeNumbers(t *testing.T) {
	const top = 6 // no choice of six numbers needs more than three spans
	sets := map[[top]bool][]api.Span{}
	lists := everyList(3, top)
	numbers := func(l []api.Span) [top]bool {
		var is [top]bool
		for n := range is {
			is[n] = has(l, n)
		}
		return is
	}
	for _, l := range lists {
		if !span.Valid(l) {
			continue
		}
		is := numbers(l)
		if other, twice := sets[is]; twice {
			t.Fatalf("%v and %v are sets of the same numbers", other, l)
		}
		sets[is] = l
	}
	if len(sets) != 1<<top {
		t.Fatalf("there are %d sets", len(sets))
	}
	for _, l := range lists {
		if got := span.Norm(l); !slices.Equal(got, sets[numbers(l)]) {
			t.Fatalf("Norm of %v: %v, not %v", l, got, sets[numbers(l)])
		}
	}
}

// P11.2 (K2): long lists have the numbers of their sets, which stay what they are.
func TestNormOfSome(t *testing.T) {
	g := rand.New(rand.NewSource(11))
	for range 5000 {
		l := someList(g, 12, 20)
		set := span.Norm(l)
		if !span.Valid(set) || !slices.Equal(set, norm(l)) || !slices.Equal(span.Norm(set), set) {
			t.Fatalf("Norm of %v: %v", l, set)
		}
		for n := -window; n <= window; n++ {
			if span.Has(set, n) != has(l, n) {
				t.Fatalf("Norm of %v is %v, which is wrong at %d", l, set, n)
			}
		}
	}
}

// P11.7: the order of a list does not matter: all orders of lists whose spans touch, overlap, are apart, or have no numbers.
func TestOrders(t *testing.T) {
	for _, l := range [][]api.Span{
		list(1, 3, 3, 5, 7, 9, 9, 7),
		list(1, 9, 2, 4, 4, 6, 8, 12),
		list(1, 2, 3, 4, 5, 6, 7, 8),
		list(1, 4, 1, 4, 4, 4, 6, 7),
		list(-3, 0, 0, 3, 2, 5, 5, -3),
	} {
		want := answersOf(norm(l), nil, of(0, 5), 4)
		for _, p := range orders(l) {
			got := answersOf(p, nil, of(0, 5), 4)
			got.valid = want.valid // to be a set is a matter of order
			if !got.equal(want) {
				t.Errorf("%v: %v, not %v", p, got, want)
			}
		}
	}
}

// orders returns l in all orders.
func orders(l []api.Span) [][]api.Span {
	if len(l) == 0 {
		return [][]api.Span{nil}
	}
	var all [][]api.Span
	for i, x := range l {
		for _, rest := range orders(slices.Delete(slices.Clone(l), i, i+1)) {
			all = append(all, append(rest, x))
		}
	}
	return all
}

// P11.7: it does not matter how a list is cut: neither into which spans, nor into which lists, and in no function.
func TestCuts(t *testing.T) {
	g := rand.New(rand.NewSource(12))
	for range 5000 {
		a, b := someList(g, 6, 12), someList(g, 6, 12)
		x, n := of(g.Intn(27)-13, g.Intn(27)-13), g.Intn(27)-13
		want := answersOf(norm(a), norm(b), x, n)
		for range 3 {
			p, q := shuffled(g, cutUp(g, a)), shuffled(g, cutUp(g, b))
			got := answersOf(p, q, x, n)
			got.valid = want.valid // to be a set is a matter of cuts
			if !got.equal(want) {
				t.Fatalf("%v, %v, %v, %d: %v, and of %v, %v: %v", a, b, x, n, want, p, q, got)
			}
			at := g.Intn(len(p) + 1)
			if set := span.Union(p[at:], p[:at]); !slices.Equal(set, want.norm) {
				t.Fatalf("Union of %v and %v: %v, not %v", p[at:], p[:at], set, want.norm)
			}
		}
	}
}

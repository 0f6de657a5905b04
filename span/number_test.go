package span_test

import (
	"math/rand"
	"testing"

	"burgage/api"
	"burgage/span"
)

// P11.1 (K4): Has at the bounds of spans, and one below and one above each.
func TestHas(t *testing.T) {
	for _, e := range []struct {
		l    []api.Span
		have []int // from -3 to 13
	}{
		{nil, nil},
		{list(5, 5), nil},
		{list(7, 2), nil},
		{list(2, 5), []int{2, 3, 4}},
		{list(-2, 1), []int{-2, -1, 0}},
		{list(0, 1), []int{0}},
		{list(2, 5, 7, 9), []int{2, 3, 4, 7, 8}},
		{list(7, 9, 2, 5), []int{2, 3, 4, 7, 8}},
		{list(2, 5, 5, 7), []int{2, 3, 4, 5, 6}},
		{list(2, 5, 4, 7), []int{2, 3, 4, 5, 6}},
		{list(2, 9, 4, 6), []int{2, 3, 4, 5, 6, 7, 8}},
		{list(2, 2, 2, 5, 5, 5), []int{2, 3, 4}},
		{list(9, 1, 2, 5, 6, 3), []int{2, 3, 4}},
		{list(10, 12, 3, 3, 2, 5, 2, 5), []int{2, 3, 4, 10, 11}},
	} {
		want := map[int]bool{}
		for _, n := range e.have {
			want[n] = true
		}
		for n := -3; n <= 13; n++ {
			if got := span.Has(e.l, n); got != want[n] {
				t.Errorf("Has of %v, %d: %v", e.l, n, got)
			}
		}
	}
}

// P11.1 (K4), P11.5, P11.6: all lists of up to two spans with bounds from 0 to 5, and all numbers and spans about them.
func TestNumbersOfAll(t *testing.T) {
	for _, l := range everyList(2, 5) {
		if got := span.Total(l); got != total(l) {
			t.Fatalf("Total of %v: %d, not %d", l, got, total(l))
		}
		for lo := -1; lo <= 6; lo++ {
			if got := span.Has(l, lo); got != has(l, lo) {
				t.Fatalf("Has of %v, %d: %v", l, lo, got)
			}
			for hi := -1; hi <= 6; hi++ {
				if got := span.Covers(l, of(lo, hi)); got != covers(l, of(lo, hi)) {
					t.Fatalf("Covers of %v, %d to %d: %v", l, lo, hi, got)
				}
			}
		}
	}
}

// P11.1 (K4), P11.5: single spans, with a number outside, and with none.
func TestCovers(t *testing.T) {
	for _, e := range []struct {
		l    []api.Span
		x    api.Span
		want bool
	}{
		// Spans without numbers, inside and outside of the list.
		{nil, of(0, 0), true},
		{nil, of(5, 2), true},
		{list(3, 3), of(3, 3), true},
		{list(1, 5), of(3, 3), true},
		{list(1, 5), of(4, 2), true},
		{list(1, 5), of(1, 1), true},
		{list(1, 5), of(5, 5), true},
		{list(1, 5), of(9, 9), true},
		{list(1, 5), of(9, 7), true},
		{list(1, 5), of(-9, -9), true},
		{list(1, 5), of(7, 0), true},
		// Nothing covers no number.
		{nil, of(0, 1), false},
		{list(3, 3), of(3, 4), false},
		{list(5, 2), of(3, 4), false},
		{list(5, 2), of(2, 5), false},
		// One span.
		{list(1, 5), of(1, 5), true},
		{list(1, 5), of(2, 4), true},
		{list(1, 5), of(1, 2), true},
		{list(1, 5), of(4, 5), true},
		{list(1, 5), of(0, 1), false},
		{list(1, 5), of(5, 6), false},
		{list(1, 5), of(0, 5), false},
		{list(1, 5), of(1, 6), false},
		{list(1, 5), of(0, 6), false},
		{list(1, 5), of(7, 9), false},
		// What several have together.
		{list(1, 3, 3, 5), of(1, 5), true},
		{list(1, 3, 3, 5), of(2, 4), true},
		{list(3, 5, 1, 3), of(2, 4), true},
		{list(3, 5, 1, 3), of(2, 6), false},
		{list(1, 4, 3, 6), of(2, 6), true},
		{list(4, 6, 1, 2, 2, 4), of(1, 6), true},
		{list(4, 6, 1, 2, 9, 0, 3, 3, 2, 4), of(1, 6), true},
		// A single number outside.
		{list(1, 3, 4, 6), of(1, 6), false},
		{list(1, 3, 4, 6), of(2, 5), false},
		{list(1, 3, 4, 6), of(3, 4), false},
		{list(1, 3, 4, 6), of(2, 4), false},
		{list(1, 3, 4, 6), of(3, 5), false},
		{list(1, 3, 4, 6), of(1, 3), true},
		{list(1, 3, 4, 6), of(4, 6), true},
		{list(4, 6, 1, 3, 3, 3), of(2, 5), false},
		{list(-1<<40, 0, 1, 1<<40), of(-1<<40, 1<<40), false},
		{list(-1<<40, 0, 1, 1<<40, 0, 1), of(-1<<40, 1<<40), true},
		{list(-1<<40, 1<<40), of(-1<<40, 1<<40+1), false},
		{list(-1<<40, 1<<40), of(-1<<40-1, 1<<40), false},
	} {
		if got := span.Covers(e.l, e.x); got != e.want {
			t.Errorf("Covers of %v, %v: %v", e.l, e.x, got)
		}
	}
}

// P11.5: a span is covered exactly if no number of it is outside: that is, if it has nothing beside the list.
func TestCoversOfSome(t *testing.T) {
	g := rand.New(rand.NewSource(31))
	seen := map[bool]int{}
	for range 20000 {
		l, x := someList(g, 8, 12), of(g.Intn(27)-13, g.Intn(27)-13)
		if g.Intn(2) == 0 {
			x.Hi = x.Lo + g.Intn(5)
		}
		want := covers(l, x)
		outside := span.Minus([]api.Span{x}, l)
		if got := span.Covers(l, x); got != want || got != (span.Total(outside) == 0) {
			t.Fatalf("Covers of %v, %v: %v, and outside are %v", l, x, got, outside)
		}
		if x.Lo < x.Hi {
			seen[want]++
		}
		for _, y := range span.Norm(l) {
			if !span.Covers(l, y) || span.Covers(l, of(y.Lo-1, y.Hi)) || span.Covers(l, of(y.Lo, y.Hi+1)) {
				t.Fatalf("Covers of %v, %v, or of one number more", l, y)
			}
		}
	}
	if seen[true] < 1000 || seen[false] < 1000 {
		t.Errorf("the results were %v", seen)
	}
}

// P11.1 (K5), P11.6: single lists, also with the least and the greatest numbers for which there are totals.
func TestTotal(t *testing.T) {
	const far = 1 << 40
	for _, e := range []struct {
		l    []api.Span
		want int
	}{
		{nil, 0},
		{list(5, 5), 0},
		{list(5, 2), 0},
		{list(far, -far), 0},
		{list(5, 6), 1},
		{list(-3, 4), 7},
		{list(1, 3, 5, 9), 6},
		{list(5, 9, 1, 3), 6},
		{list(1, 3, 3, 5), 4},
		{list(1, 5, 3, 9), 8},
		{list(3, 9, 1, 5), 8},
		{list(1, 9, 3, 5), 8},
		{list(1, 5, 1, 5, 1, 5), 4},
		{list(1, 5, 9, 2, 7, 7, 8, 9), 5},
		{list(1, 4, 2, 5, 3, 6, 4, 7), 6},
		{list(-far, far), 2 * far},
		{list(-far, far+1), 2*far + 1},
		{list(-far, far+1, -far, far+1, -far, 0), 2*far + 1},
		{list(-far, -far+1, far, far+1), 2},
		{list(0, far, -far, 0, 5, 3), 2 * far},
		{list(-far, -1, 0, far+1), 2 * far},
	} {
		if got := span.Total(e.l); got != e.want {
			t.Errorf("Total of %v: %d, not %d", e.l, got, e.want)
		}
	}
}

// P11.6: the total is the number of numbers, and the totals of parts add up.
func TestTotalsOfParts(t *testing.T) {
	g := rand.New(rand.NewSource(32))
	for range 5000 {
		a, b := someList(g, 8, 20), someList(g, 8, 20)
		all := span.Total(a)
		if all != total(a) || all != span.Total(span.Norm(a)) {
			t.Fatalf("Total of %v: %d", a, all)
		}
		both, rest := span.Total(span.Meet(a, b)), span.Total(span.Minus(a, b))
		if both+rest != all || span.Total(span.Union(a, b)) != rest+span.Total(b) || span.Total(span.Union(a, b))+both != all+span.Total(b) {
			t.Fatalf("the totals of the parts of %v by %v: %d and %d of %d", a, b, both, rest, all)
		}
		sum := 0
		for _, x := range span.Norm(a) {
			sum += span.Total([]api.Span{x})
		}
		if sum != all {
			t.Fatalf("the totals of the spans of %v: %d of %d", a, sum, all)
		}
	}
}

package span_test

import (
	"math"
	"math/rand"
	"slices"
	"sync"
	"testing"

	"burgage/api"
	"burgage/span"
)

// farList returns up to n spans whose bounds are places in farApart.
func farList(g *rand.Rand, n int) []api.Span {
	var l []api.Span
	for range g.Intn(n + 1) {
		l = append(l, of(g.Intn(len(farApart)), g.Intn(len(farApart))))
	}
	return l
}

// placeOf returns the last place in farApart at which there is no number above n.
func placeOf(n int) int {
	i := 0
	for i+1 < len(farApart) && farApart[i+1] <= n {
		i++
	}
	return i
}

// P1 of the document, P11.1 to P11.5: the least and the greatest number there is, as Lo and as Hi. Which bounds come first is all that matters, not how far they are apart.
func TestGreatNumbers(t *testing.T) {
	g := rand.New(rand.NewSource(41))
	for range 10000 {
		a, b := farList(g, 5), farList(g, 5)
		if g.Intn(3) == 0 {
			a = norm(a)
		}
		p, q := stretched(a), stretched(b)
		if got := span.Valid(p); got != slices.Equal(a, norm(a)) {
			t.Fatalf("Valid of %v: %v", p, got)
		}
		for i, pair := range [][2][]api.Span{{span.Norm(p), norm(a)}, {span.Union(p, q), union(a, b)}, {span.Meet(p, q), meet(a, b)}, {span.Minus(p, q), minus(a, b)}} {
			if want := stretched(pair[1]); !slices.Equal(pair[0], want) || !span.Valid(pair[0]) {
				t.Fatalf("%v, %v, result %d: %v, not %v", p, q, i, pair[0], want)
			}
		}
		for i, n := range farApart {
			// At the ends, the number beside one is that at the other end.
			for _, m := range []int{n - 1, n, n + 1} {
				if got := span.Has(p, m); got != has(a, placeOf(m)) {
					t.Fatalf("Has of %v, %d: %v", p, m, got)
				}
			}
			for j, m := range farApart {
				if got := span.Covers(p, of(n, m)); got != covers(a, of(i, j)) {
					t.Fatalf("Covers of %v, %d to %d: %v", p, n, m, got)
				}
			}
		}
	}
}

// P11.1 to P11.5: single cases with the least and the greatest number there is.
func TestGreatestSpans(t *testing.T) {
	const least, greatest = math.MinInt, math.MaxInt
	all := list(least, greatest)
	if !span.Valid(all) || !slices.Equal(span.Norm(all), all) || !span.Covers(all, all[0]) {
		t.Errorf("%v: %v", all, span.Norm(all))
	}
	for n, want := range map[int]bool{least: true, least + 1: true, -1: true, 0: true, greatest - 1: true, greatest: false} {
		if got := span.Has(all, n); got != want {
			t.Errorf("Has of %v, %d: %v", all, n, got)
		}
	}
	for _, l := range [][]api.Span{list(least, least), list(greatest, greatest), list(greatest, least), list(0, least), list(greatest, 0)} {
		if span.Valid(l) || len(span.Norm(l)) > 0 || span.Has(l, least) || span.Has(l, greatest) || span.Has(l, 0) || !span.Covers(nil, l[0]) || span.Covers(l, all[0]) || span.Total(l) != 0 {
			t.Errorf("%v has numbers: %v", l, span.Norm(l))
		}
	}
	for _, l := range [][]api.Span{list(least, 0, 0, greatest), list(0, greatest, least, 0), list(5, greatest, least, 9), list(least, greatest, least, greatest), list(greatest, least, least, greatest)} {
		if span.Valid(l) || !slices.Equal(span.Norm(l), all) || !span.Covers(l, all[0]) || len(span.Minus(all, l)) > 0 {
			t.Errorf("Norm of %v: %v", l, span.Norm(l))
		}
	}
	ends := list(least, least+1, greatest-1, greatest)
	if !span.Valid(ends) || !slices.Equal(span.Norm(ends), ends) || !slices.Equal(span.Minus(all, ends), list(least+1, greatest-1)) || span.Covers(ends, all[0]) {
		t.Errorf("the ends of all numbers: %v", span.Norm(ends))
	}
	if got := span.Minus(all, list(0, 1)); !slices.Equal(got, list(least, 0, 1, greatest)) || span.Covers(got, all[0]) || !slices.Equal(span.Meet(all, got), got) || !slices.Equal(span.Union(got, list(0, 1)), all) {
		t.Errorf("all numbers without 0: %v", got)
	}
}

// P1 of the document: all functions end with all lists and numbers, Total too where its result is not specified, and return sets.
func TestAllValues(t *testing.T) {
	g := rand.New(rand.NewSource(42))
	number := func() int {
		switch g.Intn(3) {
		case 0:
			return pick(g, farApart)
		case 1:
			return g.Intn(9) - 4
		}
		return int(g.Uint64())
	}
	someFar := func() []api.Span {
		var l []api.Span
		for range g.Intn(8) {
			l = append(l, of(number(), number()))
		}
		return l
	}
	for range 20000 {
		a, b := someFar(), someFar()
		x, n := of(number(), number()), number()
		s := answersOf(a, b, x, n)
		for _, l := range s.lists() {
			if !span.Valid(l) {
				t.Fatalf("%v, %v: %v is not a set", a, b, l)
			}
		}
		if s.has != has(a, n) || s.covers && x.Lo < x.Hi && (!has(a, x.Lo) || !has(a, x.Hi-1)) || s.valid && !slices.Equal(s.norm, a) {
			t.Fatalf("%v, %v, %v, %d: %v", a, b, x, n, s)
		}
	}
}

// P1 of the document, P11.7: lists of many spans, in the wrong order, inside each other, and with nothing in common.
func TestLongLists(t *testing.T) {
	const count = 1 << 16
	var apart, inside, between []api.Span
	for i := range count {
		apart = append(apart, of(3*(count-i), 3*(count-i)+2))
		inside = append(inside, of(-i-1, i+1))
		between = append(between, of(3*i+2, 3*i+3))
	}
	set := slices.Clone(apart)
	slices.Reverse(set)
	if got := span.Norm(apart); !slices.Equal(got, set) || !span.Valid(got) || span.Valid(apart) {
		t.Errorf("Norm of spans that are apart has %d spans", len(got))
	}
	if got := span.Norm(inside); !slices.Equal(got, list(-count, count)) || span.Total(inside) != 2*count {
		t.Errorf("Norm of spans inside each other has %d spans", len(got))
	}
	if got := span.Total(apart); got != 2*count {
		t.Errorf("Total of spans that are apart: %d", got)
	}
	if got := span.Union(apart, between); !slices.Equal(got, list(2, 3*count+2)) {
		t.Errorf("Union of lists that touch has %d spans", len(got))
	}
	if got := span.Meet(apart, between); len(got) > 0 {
		t.Errorf("Meet of lists that touch has %d spans", len(got))
	}
	if got := span.Minus(list(3, 3*count+2), between); !slices.Equal(got, set) || span.Covers(between, of(2, 4)) || !span.Covers(apart, of(3*count, 3*count+2)) {
		t.Errorf("Minus of what is between has %d spans", len(got))
	}
}

// watch returns a copy of l with room before and behind it, and what tells whether that memory is what it was.
func watch(l []api.Span) ([]api.Span, func() bool) {
	room := slices.Repeat(list(98, 99), 5)
	whole := slices.Concat(room, l, room)
	kept := slices.Clone(whole)
	return whole[5 : 5+len(l)], func() bool { return slices.Equal(whole, kept) }
}

// spoil writes to all memory of the lists that were returned.
func (s answers) spoil() {
	for _, l := range s.lists() {
		for i := range l[:cap(l)] {
			l[:cap(l)][i] = of(97, 96)
		}
	}
}

// K6 (P11.1), and P2 of the document: no argument is modified, nor the memory about it, the same arguments have the same results, and these are new memory, also where they are equal to an argument.
func TestArguments(t *testing.T) {
	g := rand.New(rand.NewSource(43))
	for range 5000 {
		a, b := someList(g, 6, 12), someList(g, 6, 12)
		switch g.Intn(4) {
		case 0:
			a, b = norm(a), nil
		case 1:
			b = a
		}
		x, n := of(g.Intn(27)-13, g.Intn(27)-13), g.Intn(27)-13
		want := answersOf(a, b, x, n)
		p, isP := watch(a)
		q, isQ := watch(b)
		for range 2 {
			got := answersOf(p, q, x, n)
			if !got.equal(want) {
				t.Fatalf("%v, %v, %v, %d: %v, and again %v", a, b, x, n, want, got)
			}
			got.spoil()
			if !isP() || !isQ() {
				t.Fatalf("%v, %v, %v, %d: an argument has changed", a, b, x, n)
			}
		}
		if both := answersOf(p, p, x, n); !both.equal(answersOf(a, slices.Clone(a), x, n)) || !isP() {
			t.Fatalf("%v and itself, %v, %d: %v", a, x, n, both)
		}
	}
}

// P1 and P2 of the document: nil and empty lists are the same.
func TestNilAndEmpty(t *testing.T) {
	empty := []api.Span{}
	for _, l := range [][]api.Span{nil, empty, list(2, 2), list(1, 5), list(5, 9, 1, 3)} {
		want := answersOf(l, nil, of(1, 3), 2)
		if got := answersOf(l, empty, of(1, 3), 2); !got.equal(want) {
			t.Errorf("%v, and an empty list: %v, not %v", l, got, want)
		}
		want = answersOf(nil, l, of(1, 3), 2)
		if got := answersOf(empty, l, of(1, 3), 2); !got.equal(want) || !got.valid || got.has || got.covers || got.total != 0 {
			t.Errorf("an empty list, and %v: %v, not %v", l, got, want)
		}
	}
}

// P2 of the document: what is asked at the same time does not matter.
func TestAtOnce(t *testing.T) {
	g := rand.New(rand.NewSource(44))
	a, b := someList(g, 40, 25), someList(g, 40, 25)
	wrong := make([]bool, 8)
	var wait sync.WaitGroup
	for i := range wrong {
		want := answersOf(a, b[:len(b)*i/8], of(i, i+3), i)
		wait.Go(func() {
			for range 300 {
				wrong[i] = wrong[i] || !answersOf(a, b[:len(b)*i/8], of(i, i+3), i).equal(want)
			}
		})
	}
	wait.Wait()
	if slices.Contains(wrong, true) {
		t.Error("there were other results")
	}
}

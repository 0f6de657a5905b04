package span_test

import (
	"math"
	"math/rand"
	"slices"

	"burgage/api"
	"burgage/span"
)

// window is how far from zero the models look: all lists that they are asked about have bounds nearer to it.
const window = 30

func pick[T any](g *rand.Rand, l []T) T { return l[g.Intn(len(l))] }

func of(lo, hi int) api.Span { return api.Span{Lo: lo, Hi: hi} }

// list returns the spans whose bounds are given pair by pair.
func list(bounds ...int) []api.Span {
	var l []api.Span
	for i := 0; i < len(bounds); i += 2 {
		l = append(l, of(bounds[i], bounds[i+1]))
	}
	return l
}

// has says as the chapter does whether a list has a number.
func has(l []api.Span, n int) bool {
	for _, x := range l {
		if n >= x.Lo && n < x.Hi {
			return true
		}
	}
	return false
}

// setOf returns the set of some numbers, which it finds one by one.
func setOf(is func(n int) bool) []api.Span {
	var l []api.Span
	for n := -window; n <= window; n++ {
		switch {
		case is(n) && !is(n-1):
			l = append(l, of(n, n+1))
		case is(n):
			l[len(l)-1].Hi++
		}
	}
	return l
}

func norm(l []api.Span) []api.Span {
	return setOf(func(n int) bool { return has(l, n) })
}

func union(a, b []api.Span) []api.Span {
	return setOf(func(n int) bool { return has(a, n) || has(b, n) })
}

func meet(a, b []api.Span) []api.Span {
	return setOf(func(n int) bool { return has(a, n) && has(b, n) })
}

func minus(a, b []api.Span) []api.Span {
	return setOf(func(n int) bool { return has(a, n) && !has(b, n) })
}

// covers asks for each number of x whether l has it.
func covers(l []api.Span, x api.Span) bool {
	for n := x.Lo; n < x.Hi; n++ {
		if !has(l, n) {
			return false
		}
	}
	return true
}

// total counts the numbers that l has.
func total(l []api.Span) int {
	count := 0
	for n := -window; n <= window; n++ {
		if has(l, n) {
			count++
		}
	}
	return count
}

// everySpan returns all spans with bounds from 0 to top.
func everySpan(top int) []api.Span {
	var l []api.Span
	for lo := 0; lo <= top; lo++ {
		for hi := 0; hi <= top; hi++ {
			l = append(l, of(lo, hi))
		}
	}
	return l
}

// everyList returns all lists of at most n spans with bounds from 0 to top.
func everyList(n, top int) [][]api.Span {
	lists := [][]api.Span{nil}
	if n == 0 {
		return lists
	}
	for _, l := range everyList(n-1, top) {
		for _, x := range everySpan(top) {
			lists = append(lists, append(slices.Clone(l), x))
		}
	}
	return lists
}

// someList returns up to n spans with bounds from -size to size. Some have no numbers, and some lists are sets, or nearly.
func someList(g *rand.Rand, n, size int) []api.Span {
	var l []api.Span
	for range g.Intn(n + 1) {
		x := of(g.Intn(2*size+1)-size, g.Intn(2*size+1)-size)
		if g.Intn(3) > 0 && x.Lo > x.Hi {
			x.Lo, x.Hi = x.Hi, x.Lo
		}
		l = append(l, x)
	}
	switch g.Intn(4) {
	case 0:
		return norm(l)
	case 1:
		return cutUp(g, norm(l))
	}
	return l
}

// cutUp returns the same numbers in spans that touch, overlap or are there twice, among some that have none.
func cutUp(g *rand.Rand, l []api.Span) []api.Span {
	var parts []api.Span
	for _, x := range l {
		if x.Lo >= x.Hi {
			continue
		}
		at := x.Lo
		for at < x.Hi {
			next := at + 1 + g.Intn(x.Hi-at)
			parts = append(parts, of(max(x.Lo, at-g.Intn(3)), next))
			at = next
		}
		parts = append(parts, pick(g, parts), of(x.Hi, x.Lo), of(x.Lo, x.Lo))
	}
	return parts
}

// shuffled returns the spans of l in another order.
func shuffled(g *rand.Rand, l []api.Span) []api.Span {
	l = slices.Clone(l)
	g.Shuffle(len(l), func(i, j int) { l[i], l[j] = l[j], l[i] })
	return l
}

// farApart are numbers in their order, the least and the greatest that there are among them.
var farApart = []int{math.MinInt, math.MinInt + 1, math.MinInt + 2, -1<<40 - 1, -1, 0, 1, 2, 1 << 40, 1 << 62, math.MaxInt - 2, math.MaxInt - 1, math.MaxInt}

// stretched returns the list in which each number n is the one that farApart has at n.
func stretched(l []api.Span) []api.Span {
	var far []api.Span
	for _, x := range l {
		far = append(far, of(farApart[x.Lo], farApart[x.Hi]))
	}
	return far
}

// answers has the results of all functions for some arguments.
type answers struct {
	valid, has, covers       bool
	norm, union, meet, minus []api.Span
	total                    int
}

// answersOf asks all functions.
func answersOf(a, b []api.Span, x api.Span, n int) answers {
	return answers{valid: span.Valid(a), norm: span.Norm(a), union: span.Union(a, b), meet: span.Meet(a, b), minus: span.Minus(a, b), has: span.Has(a, n), covers: span.Covers(a, x), total: span.Total(a)}
}

func (s answers) equal(t answers) bool {
	return s.valid == t.valid && s.has == t.has && s.covers == t.covers && s.total == t.total && slices.EqualFunc(s.lists(), t.lists(), slices.Equal)
}

func (s answers) lists() [][]api.Span { return [][]api.Span{s.norm, s.union, s.meet, s.minus} }

package span

import (
	"cmp"
	"slices"

	"burgage/api"
)

// rules say whether an operation takes a number, by whether its first and its second list have it. None of them takes what neither has.
type rules struct {
	union, meet, minus func(first, second bool) bool
}

func operations() rules {
	return rules{
		union: func(first, second bool) bool { return first || second },
		meet:  func(first, second bool) bool { return first && second },
		minus: func(first, second bool) bool { return first && !second },
	}
}

// bound is a number at which a span of one of two lists begins or ends.
type bound struct {
	at   int
	list int // 0 for the first one, 1 for the second one
	step int // 1 where a span begins, -1 where it ends
}

// bounds returns the bounds of two lists by their numbers. Those at one number come in any order.
func bounds(a, b []api.Span) []bound {
	var l []bound
	for i, spans := range [][]api.Span{a, b} {
		for _, x := range spans {
			if x.Lo < x.Hi {
				l = append(l, bound{at: x.Lo, list: i, step: 1}, bound{at: x.Hi, list: i, step: -1})
			}
		}
	}
	slices.SortFunc(l, func(x, y bound) int { return cmp.Compare(x.at, y.at) })
	return l
}

// swept returns the set of the numbers that an operation takes from a and b.
func swept(a, b []api.Span, takes func(first, second bool) bool) []api.Span {
	var set []api.Span
	var over [2]int // how many spans of each list have the numbers behind the bounds that were passed
	taken := false  // whether the set has them
	pass := func(x bound, last bool) {
		over[x.list] += x.step
		if !last || takes(over[0] > 0, over[1] > 0) == taken {
			return
		}
		taken = !taken
		if taken {
			set = append(set, api.Span{Lo: x.at})
		} else {
			set[len(set)-1].Hi = x.at
		}
	}
	l := bounds(a, b)
	for i, x := range l {
		// Only the last one of the bounds at a number tells what is behind it: between them there are no numbers.
		pass(x, i == len(l)-1 || l[i+1].at != x.at)
	}
	return set
}

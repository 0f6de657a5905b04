package acl_test

import (
	"math"
	"math/rand"
	"slices"

	"burgage/api"
)

const (
	r = api.MayRead
	w = api.MayWrite
	n = api.MayEnter
	m = api.MayRule
)

func allow(who, rights, reach int) api.Ace {
	return api.Ace{Who: who, Allow: true, Rights: rights, Reach: reach}
}

func deny(who, rights, reach int) api.Ace {
	return api.Ace{Who: who, Rights: rights, Reach: reach}
}

func given(e api.Ace) api.Ace {
	e.Given = true
	return e
}

func list(l ...api.Ace) []api.Ace { return l }

// many returns a valid list of k entries, for the persons from first on.
func many(k, first int) []api.Ace {
	var l []api.Ace
	for i := range k {
		l = append(l, allow(first+i, r, api.Both))
	}
	return l
}

// alike says what it is to have the same mark.
func alike(a, b api.Ace) bool {
	return a.Who == b.Who && a.Allow == b.Allow && a.Reach == b.Reach && a.Given == b.Given
}

// at returns the place in l of the entry with the mark of e, or -1.
func at(l []api.Ace, e api.Ace) int {
	return slices.IndexFunc(l, func(x api.Ace) bool { return alike(x, e) })
}

// rightsAt returns the Rights of the entry of l with the mark of e, or 0.
func rightsAt(l []api.Ace, e api.Ace) int {
	if i := at(l, e); i >= 0 {
		return l[i].Rights
	}
	return 0
}

// isValid says what a valid list is, one condition after the other.
func isValid(l []api.Ace) bool {
	for i, e := range l {
		if e.Who < -2 || e.Who > 999 || e.Rights < 1 || e.Rights > 15 || e.Reach < 1 || e.Reach > 3 {
			return false
		}
		for _, f := range l[:i] {
			if alike(e, f) || f.Given && !e.Given {
				return false
			}
		}
	}
	return len(l) <= 16
}

// entries returns all entries of these fields.
func entries(whos, rights, reaches []int) []api.Ace {
	var l []api.Ace
	for _, who := range whos {
		for _, rs := range rights {
			for _, reach := range reaches {
				l = append(l, allow(who, rs, reach), deny(who, rs, reach), given(allow(who, rs, reach)), given(deny(who, rs, reach)))
			}
		}
	}
	return l
}

// few are right entries that often have the same mark.
func few() []api.Ace {
	return entries([]int{-2, -1, 5}, []int{r, r | w, m}, []int{api.Here, api.Both, api.Under})
}

// odd are numbers in and out of the ranges of all fields.
var odd = []int{math.MinInt, -1000, -16, -3, -2, -1, 0, 1, 2, 3, 4, 5, 15, 16, 31, 255, 999, 1000, math.MaxInt - 1, math.MaxInt}

func pick[T any](g *rand.Rand, l []T) T { return l[g.Intn(len(l))] }

// someValid returns a valid list of at most k entries.
func someValid(g *rand.Rand, k int) []api.Ace {
	from := few()
	var own, rest []api.Ace
	for range g.Intn(k + 1) {
		e := pick(g, from)
		e.Rights = 1 + g.Intn(15)
		switch {
		case at(own, e) >= 0 || at(rest, e) >= 0:
		case e.Given:
			rest = append(rest, e)
		default:
			own = append(own, e)
		}
	}
	return append(own, rest...)
}

// someList returns a list of any entries, most of which are not right.
func someList(g *rand.Rand, k int) []api.Ace {
	var l []api.Ace
	for range g.Intn(k + 1) {
		l = append(l, api.Ace{Who: pick(g, odd), Allow: g.Intn(2) == 0, Rights: pick(g, odd), Reach: pick(g, odd), Given: g.Intn(2) == 0})
	}
	return l
}

// lists returns lists of all kinds: all short ones of a few entries, valid ones, and odd ones.
func lists() [][]api.Ace {
	l := [][]api.Ace{nil, {}}
	for _, a := range few() {
		l = append(l, list(a))
		for _, b := range few() {
			l = append(l, list(a, b))
		}
	}
	g := rand.New(rand.NewSource(1))
	for range 3000 {
		l = append(l, someValid(g, 16), someList(g, 6), slices.Concat(someValid(g, 9), someList(g, 3)), slices.Concat(someValid(g, 9), someValid(g, 9)))
	}
	return l
}

// valids returns valid lists of all kinds.
func valids() [][]api.Ace {
	l := slices.DeleteFunc(lists(), func(l []api.Ace) bool { return !isValid(l) })
	return append(l, many(16, 0), many(16, 984), slices.Concat(many(8, 0), []api.Ace{given(allow(1, r, api.Both))}))
}

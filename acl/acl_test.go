package acl_test

import (
	"math"
	"slices"
	"testing"

	"burgage/acl"
	"burgage/api"
)

// P2.1 (B1): each field in and out of its range.
func TestValidEntries(t *testing.T) {
	for _, e := range entries(odd, odd, odd) {
		want := -2 <= e.Who && e.Who <= 999 && 1 <= e.Rights && e.Rights <= 15 && 1 <= e.Reach && e.Reach <= 3
		if got := acl.Valid(list(e)); got != want {
			t.Errorf("Valid of %v: %v", e, got)
		}
		if got := acl.Valid(list(allow(7, r, api.Here), e)); got != (want && !(alike(e, allow(7, r, api.Here)))) {
			t.Errorf("Valid of %v after another one: %v", e, got)
		}
	}
	for rights := -2; rights <= 20; rights++ {
		if got := acl.Valid(list(deny(0, rights, api.Under))); got != (1 <= rights && rights <= 15) {
			t.Errorf("Valid with the rights %d: %v", rights, got)
		}
	}
	for who := -5; who <= 1005; who++ {
		if got := acl.Valid(list(deny(who, r, api.Under))); got != (-2 <= who && who <= 999) {
			t.Errorf("Valid with the person %d: %v", who, got)
		}
	}
}

// P2.1 (B1): marks, the order of own and given entries, and lists of all kinds.
func TestValidLists(t *testing.T) {
	a, b := allow(5, r, api.Both), deny(5, r, api.Both)
	for _, x := range []struct {
		l    []api.Ace
		want bool
	}{
		{nil, true},
		{list(), true},
		{list(a, b), true},
		{list(a, a), false},
		{list(a, allow(5, w, api.Both)), false},
		{list(a, allow(5, r, api.Here), allow(5, r, api.Under)), true},
		{list(a, given(a)), true},
		{list(given(a), a), false},
		{list(a, given(b), given(a)), true},
		{list(a, given(b), b), false},
		{list(given(b), given(b)), false},
		{list(a, b, allow(6, r, api.Both), allow(5, m, api.Both)), false},
	} {
		if got := acl.Valid(x.l); got != x.want {
			t.Errorf("Valid of %v: %v", x.l, got)
		}
	}
	for _, l := range lists() {
		if got := acl.Valid(l); got != isValid(l) {
			t.Errorf("Valid of %v: %v", l, got)
		}
	}
}

// isFor says for whom an entry counts.
func isFor(e api.Ace, who, owner int) bool {
	return (e.Reach == 1 || e.Reach == 2) && (e.Who == who || e.Who == -1 || e.Who == -2 && who == owner)
}

// rights says it as the chapter does, one right after the other.
func rights(l []api.Ace, who, owner int) int {
	sum := 0
	for _, bit := range []int{1, 2, 4, 8} {
		i := slices.IndexFunc(l, func(e api.Ace) bool { return isFor(e, who, owner) && e.Rights&bit != 0 })
		if i >= 0 && l[i].Allow || who == 0 || who == owner && bit == 8 {
			sum += bit
		}
	}
	return sum
}

// P2.1 (B2): the examples of the chapter, and others.
func TestRightsExamples(t *testing.T) {
	l := list(deny(5, w, api.Both), allow(api.Everyone, r|w, api.Both))
	for _, x := range []struct {
		l                []api.Ace
		who, owner, want int
	}{
		{l, 5, 9, r},
		{l, 6, 9, r | w},
		{l, 9, 9, r | w | m},
		{l, 5, 5, r | m},
		{l, 0, 9, r | w | n | m},
		{nil, 0, 9, r | w | n | m},
		{nil, 9, 9, m},
		{nil, 8, 9, 0},
		{list(allow(5, r, api.Under)), 5, 9, 0},
		{list(allow(5, r, api.Here)), 5, 9, r},
		{list(allow(5, r, 0)), 5, 9, 0},
		{list(allow(5, r, 4)), 5, 9, 0},
		{list(deny(5, r|w, api.Here), allow(5, 15, api.Both)), 5, 9, n | m},
		{list(allow(5, r, api.Here), deny(5, 15, api.Both)), 5, 9, r},
		{list(deny(5, r, api.Under), allow(5, r, api.Here)), 5, 9, r},
		{list(deny(9, 15, api.Here)), 9, 9, m},
		{list(deny(0, 15, api.Here)), 0, 9, r | w | n | m},
		{list(allow(api.TheOwner, r, api.Here)), 9, 9, r | m},
		{list(allow(api.TheOwner, r, api.Here)), 5, 9, 0},
		{list(given(allow(5, w, api.Here))), 5, 9, w},
		{list(allow(5, -1, api.Here)), 5, 9, 15},
		{list(allow(5, 16, api.Here)), 5, 9, 0},
		{list(allow(5, math.MinInt|r, api.Here)), 5, 9, r},
		{list(allow(math.MaxInt, w, api.Here)), math.MaxInt, math.MinInt, w},
		{list(allow(math.MaxInt, w, api.Here)), math.MinInt, math.MinInt, m},
		{list(allow(api.TheOwner, w, api.Here)), api.TheOwner, 9, w},
		{list(allow(api.Everyone, w, api.Here)), -7, 9, w},
	} {
		if got := acl.Rights(x.l, x.who, x.owner); got != x.want {
			t.Errorf("Rights of %v, %d, %d: %d", x.l, x.who, x.owner, got)
		}
	}
}

// P2.1 (B2): all lists, with persons in and out of their range.
func TestRights(t *testing.T) {
	for _, l := range lists() {
		for _, who := range []int{math.MinInt, -3, -2, -1, 0, 5, 9, 999, 1000, math.MaxInt} {
			for _, owner := range []int{-2, 0, 5, 9, math.MaxInt} {
				if got, want := acl.Rights(l, who, owner), rights(l, who, owner); got != want {
					t.Fatalf("Rights of %v, %d, %d: %d", l, who, owner, got)
				}
			}
		}
	}
}

// P2.1 (B3): any rights that are wanted, also such as do not exist, of somebody who has any.
func TestAllows(t *testing.T) {
	wants := append([]int{math.MinInt | 1, -15, -8, 1 << 40, 1<<40 | 1}, odd...)
	for want := range 40 {
		wants = append(wants, want)
	}
	for has := range 16 {
		l := list(allow(5, has, api.Both))
		for _, want := range wants {
			if got := acl.Allows(l, 5, 9, want); got != (0 <= want && want <= 15 && want|has == has) {
				t.Errorf("Allows of %v, with the rights %d: %v", l, want, got)
			}
		}
	}
	for _, l := range lists() {
		for _, who := range []int{-1, 0, 5, 9} {
			has := rights(l, who, 9)
			for _, want := range []int{0, r, w, n, m, r | w, w | m, 15, 16, has, has | 1<<9, -1} {
				if got := acl.Allows(l, who, 9, want); got != (0 <= want && want <= 15 && want|has == has) {
					t.Errorf("Allows of %v, %d, 9, %d: %v", l, who, want, got)
				}
			}
		}
	}
}

// P2.2: what the first entries have decided stays; 0 may all; the owner may rule.
func TestRightsStay(t *testing.T) {
	all := lists()
	for i, l := range all {
		more := slices.Concat(l, all[(7*i+1)%len(all)])
		for _, who := range []int{-1, 0, 5, 9, 999} {
			for _, owner := range []int{5, 9} {
				before, after := acl.Rights(l, who, owner), acl.Rights(more, who, owner)
				decided := 0
				for _, e := range l {
					if isFor(e, who, owner) {
						decided |= e.Rights
					}
				}
				if (before^after)&decided != 0 {
					t.Fatalf("Rights of %v, %d, %d: %d, and with more entries %d", l, who, owner, before, after)
				}
				if who == 0 && before != 15 || who == owner && before&m == 0 {
					t.Fatalf("Rights of %v, %d, %d: %d", l, who, owner, before)
				}
			}
		}
	}
}

// P2.8: TheOwner counts for the owner, whoever that is, and for nobody else; Everyone counts for all.
func TestOwners(t *testing.T) {
	mine, ours := list(allow(api.TheOwner, w, api.Here)), list(allow(api.Everyone, w, api.Both))
	for who := range 1000 {
		for owner := range 1000 {
			if got := acl.Allows(mine, who, owner, w); got != (who == owner || who == 0) {
				t.Fatalf("TheOwner, %d, %d: %v", who, owner, got)
			}
			if !acl.Allows(ours, who, owner, w) {
				t.Fatalf("Everyone, %d, %d", who, owner)
			}
		}
	}
}

// child says it as the chapter does.
func child(l []api.Ace, dir bool) []api.Ace {
	var out []api.Ace
	for _, e := range l {
		if e.Reach != 2 && e.Reach != 3 {
			continue
		}
		e.Reach, e.Given = 1, true
		if dir {
			e.Reach = 2
		}
		if i := at(out, e); i >= 0 {
			out[i].Rights |= e.Rights
		} else {
			out = append(out, e)
		}
	}
	return out
}

// P2.1 (B4): the example of the chapter, others, and all lists.
func TestChild(t *testing.T) {
	for _, x := range []struct {
		l    []api.Ace
		dir  bool
		want []api.Ace
	}{
		{nil, true, nil},
		{list(allow(5, r, api.Under)), false, list(given(allow(5, r, api.Here)))},
		{list(allow(5, r, api.Under)), true, list(given(allow(5, r, api.Both)))},
		{list(allow(5, r, api.Here), given(deny(5, r, api.Here))), true, nil},
		{list(allow(5, r, api.Both), deny(6, w, api.Both)), true, list(given(allow(5, r, api.Both)), given(deny(6, w, api.Both)))},
		{list(allow(5, r, api.Both), deny(6, w, api.Both), allow(5, w, api.Under), given(allow(5, n, api.Both))), false, list(given(allow(5, r|w|n, api.Here)), given(deny(6, w, api.Here)))},
		{list(allow(5, r, 0), allow(5, r, 4), allow(5, r, -1)), true, nil},
		{list(allow(math.MaxInt, -8, api.Both), allow(math.MaxInt, 5, api.Both)), true, list(given(allow(math.MaxInt, -3, api.Both)))},
		{list(deny(5, 0, api.Both)), true, list(given(deny(5, 0, api.Both)))},
	} {
		if got := acl.Child(x.l, x.dir); !slices.Equal(got, x.want) {
			t.Errorf("Child of %v, %v: %v", x.l, x.dir, got)
		}
	}
	for _, l := range lists() {
		for _, dir := range []bool{false, true} {
			if got := acl.Child(l, dir); !slices.Equal(got, child(l, dir)) {
				t.Errorf("Child of %v, %v: %v", l, dir, got)
			}
		}
	}
}

// P2.3: lists of children of valid lists are valid, all given, and given on as they are.
func TestChildren(t *testing.T) {
	for _, l := range valids() {
		dir, file := acl.Child(l, true), acl.Child(l, false)
		for _, c := range [][]api.Ace{dir, file} {
			if !isValid(c) || !acl.Valid(c) {
				t.Fatalf("Child of %v: %v is not valid", l, c)
			}
			if slices.ContainsFunc(c, func(e api.Ace) bool { return !e.Given }) {
				t.Fatalf("Child of %v: %v", l, c)
			}
		}
		deep := dir
		for range 7 {
			if got := acl.Child(deep, false); !slices.Equal(got, file) {
				t.Fatalf("Child of %v for a file below: %v", l, got)
			}
			if deep = acl.Child(deep, true); !slices.Equal(deep, dir) {
				t.Fatalf("Child of %v for a directory below: %v", l, deep)
			}
		}
		for _, e := range l {
			if e.Reach != api.Here && rightsAt(dir, given(api.Ace{Who: e.Who, Allow: e.Allow, Reach: api.Both}))&e.Rights != e.Rights {
				t.Fatalf("Child of %v lacks %v: %v", l, e, dir)
			}
		}
	}
}

// P2.1 (B5) and P2.4: own entries stay, the others are those of the directory; twice is once.
func TestAgain(t *testing.T) {
	a, b, c := allow(5, r, api.Both), deny(6, w, api.Here), allow(7, r|n, api.Under)
	for _, x := range []struct {
		l, dir []api.Ace
		isDir  bool
		want   []api.Ace
	}{
		{nil, nil, true, nil},
		{list(a, b, given(c)), nil, true, list(a, b)},
		{list(given(a), given(b)), list(c), true, list(given(allow(7, r|n, api.Both)))},
		{list(b, a, given(a)), list(a, b, c), false, list(b, a, given(allow(5, r, api.Here)), given(allow(7, r|n, api.Here)))},
		{list(given(a), b, given(b), a), list(c), true, list(b, a, given(allow(7, r|n, api.Both)))},
		{list(a, a, allow(5000, -1, 9)), list(b), true, list(a, a, allow(5000, -1, 9))},
	} {
		if got := acl.Again(x.l, x.dir, x.isDir); !slices.Equal(got, x.want) {
			t.Errorf("Again of %v, %v, %v: %v", x.l, x.dir, x.isDir, got)
		}
	}
	all := lists()
	for i, l := range all {
		dir, other := all[(11*i+5)%len(all)], all[(13*i+7)%len(all)]
		var own []api.Ace
		for _, e := range l {
			if !e.Given {
				own = append(own, e)
			}
		}
		for _, isDir := range []bool{false, true} {
			got := acl.Again(l, dir, isDir)
			if want := slices.Concat(own, child(dir, isDir)); !slices.Equal(got, want) {
				t.Fatalf("Again of %v, %v, %v: %v", l, dir, isDir, got)
			}
			if twice := acl.Again(got, dir, isDir); !slices.Equal(twice, got) {
				t.Fatalf("Again of %v, %v, %v: %v, and twice %v", l, dir, isDir, got, twice)
			}
			if back := acl.Again(acl.Again(l, other, isDir), dir, isDir); !slices.Equal(back, got) {
				t.Fatalf("Again of %v, %v, %v: %v, and after another directory %v", l, dir, isDir, got, back)
			}
		}
	}
}

// P2.1 (B8): each field, the order and the length tell; nil is the empty list.
func TestSame(t *testing.T) {
	e := allow(5, r, api.Both)
	for _, f := range []api.Ace{allow(6, r, api.Both), deny(5, r, api.Both), allow(5, w, api.Both), allow(5, r, api.Here), given(e)} {
		for _, x := range []struct {
			a, b []api.Ace
			want bool
		}{
			{nil, list(), true},
			{list(e), list(e), true},
			{list(e), list(f), false},
			{list(f, e), list(f, e), true},
			{list(f, e), list(e, f), false},
			{list(f, e), list(f), false},
			{list(e), nil, false},
			{list(e, e), list(e), false},
			{list(e, e), list(e, e), true},
		} {
			if acl.Same(x.a, x.b) != x.want || acl.Same(x.b, x.a) != x.want {
				t.Errorf("Same of %v, %v is not %v", x.a, x.b, x.want)
			}
		}
	}
	for _, l := range lists() {
		if !acl.Same(l, slices.Clone(l)) || acl.Same(l, append(slices.Clone(l), e)) {
			t.Errorf("Same of %v", l)
		}
	}
}

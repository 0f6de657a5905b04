package acl_test

import (
	"math/rand"
	"slices"
	"testing"

	"burgage/acl"
	"burgage/api"
)

// P2.1 (B7): lists that are the same, the order of the result, what clashes, and what is too long.
func TestMerge(t *testing.T) {
	a, b, c, d := allow(1, r, api.Both), allow(2, r, api.Both), deny(3, w, api.Here), allow(4, n, api.Under)
	a2, a3 := allow(1, w, api.Both), allow(1, m, api.Both)
	for _, x := range []struct {
		base, mine, theirs, want []api.Ace
		is                       bool
	}{
		{nil, nil, nil, nil, true},
		{nil, nil, list(a, b), list(a, b), true},
		{nil, list(a, b), nil, list(a, b), true},
		{list(a), list(a), list(b, a), list(b, a), true},
		{list(a), list(b, a), list(a), list(b, a), true},
		{list(a), list(a2, b), list(a2, b), list(a2, b), true},
		{list(a), list(b, a), list(c, a), list(b, a, c), true},
		{list(a), list(c, a), list(b, a), list(c, a, b), true},
		{list(a, b), list(b, a), list(a2, b), list(b, a2), true},
		{list(a, b), list(a2, b), list(b, a), list(a2, b), true},
		{list(a, b), list(b, a), list(a, b), list(b, a), true},
		{list(a, b, c), list(a), list(a, b), list(a), true},
		{list(a, b, c), list(b, c), list(a, c), list(c), true},
		{list(a, b), list(b), list(a), nil, true},
		{list(a), list(b), list(c), list(b, c), true},
		{list(a), list(a2, b), list(a2, c), list(a2, b, c), true},
		{list(a), list(a2), list(a3), nil, false},
		{list(a), list(a2), list(b), nil, false},
		{list(a), nil, list(a2), nil, false},
		{list(a), list(b), list(a2), nil, false},
		{nil, list(a), list(a2), nil, false},
		{nil, list(a, b), list(a, c), list(a, b, c), true},
		{nil, list(a, given(b)), list(c, given(d)), list(a, c, given(b), given(d)), true},
		{nil, list(given(a), given(b)), list(c, d), list(c, d, given(a), given(b)), true},
		{list(given(a)), list(given(a2)), list(c, given(a), given(d)), list(c, given(a2), given(d)), true},
		{list(a), list(a, b), list(a, c, d, given(a)), list(a, b, c, d, given(a)), true},
		{nil, list(given(a)), list(a2), list(a2, given(a)), true},
		{nil, list(a), list(deny(1, w, api.Both)), list(a, deny(1, w, api.Both)), true},
		{nil, list(a), list(allow(1, w, api.Here)), list(a, allow(1, w, api.Here)), true},
		{nil, many(8, 0), many(8, 8), many(16, 0), true},
		{nil, many(9, 0), many(8, 9), nil, false},
		{nil, many(8, 0), many(9, 8), nil, false},
		{nil, many(16, 0), many(1, 16), nil, false},
		{many(1, 0), many(16, 0), many(1, 16), many(16, 1), true},
		{many(16, 0), many(15, 1), append(many(15, 0), c), append(many(14, 1), c), true},
		{many(2, 0), many(16, 0), append(many(1, 0), c), append(append(many(1, 0), many(14, 2)...), c), true},
	} {
		if got, is := acl.Merge(x.base, x.mine, x.theirs); !slices.Equal(got, x.want) || is != x.is {
			t.Errorf("Merge of %v, %v, %v: %v, %v", x.base, x.mine, x.theirs, got, is)
		}
	}
}

// after returns the others after one entry with these rights, or without it if there are none.
func after(rights int, others ...api.Ace) []api.Ace {
	if rights == 0 {
		return others
	}
	return append(list(allow(1, rights, api.Both)), others...)
}

// P2.1 (B7): all rights of one mark in the three lists, with another new entry on each side.
func TestMergeOutcomes(t *testing.T) {
	b, c := allow(2, r, api.Both), deny(3, w, api.Here)
	for base := range 16 {
		for mine := range 16 {
			for theirs := range 16 {
				want, is := 0, true
				switch {
				case mine == base:
					want = theirs
				case theirs == base || mine == theirs:
					want = mine
				default:
					is = false
				}
				got, ok := acl.Merge(after(base), after(mine, b), after(theirs, c))
				if ok != is || !is && len(got) != 0 || is && (len(got) != len(after(want, b, c)) || rightsAt(got, allow(1, 0, api.Both)) != want) {
					t.Errorf("Merge of the rights %d, %d, %d: %v, %v", base, mine, theirs, got, ok)
				}
			}
		}
	}
}

// merge says it as the chapter does.
func merge(base, mine, theirs []api.Ace) ([]api.Ace, bool) {
	switch {
	case slices.Equal(mine, base):
		return theirs, true
	case slices.Equal(theirs, base) || slices.Equal(mine, theirs):
		return mine, true
	}
	var out []api.Ace
	for _, isGiven := range []bool{false, true} {
		for i, e := range slices.Concat(mine, theirs) {
			if e.Given != isGiven || i >= len(mine) && at(mine, e) >= 0 {
				continue
			}
			was, here, there := rightsAt(base, e), rightsAt(mine, e), rightsAt(theirs, e)
			switch {
			case here == was:
				e.Rights = there
			case there == was || here == there:
				e.Rights = here
			default:
				return nil, false
			}
			if e.Rights != 0 {
				out = append(out, e)
			}
		}
	}
	if len(out) > 16 {
		return nil, false
	}
	return out, true
}

// changed returns l after some changes: entries with other rights, new, left out, or at other places.
func changed(g *rand.Rand, l []api.Ace) []api.Ace {
	l = slices.Clone(l)
	if len(l) > 0 && g.Intn(3) == 0 {
		own := len(l)
		if i := slices.IndexFunc(l, func(e api.Ace) bool { return e.Given }); i >= 0 {
			own = i
		}
		g.Shuffle(own, func(i, j int) { l[i], l[j] = l[j], l[i] })
	}
	for range g.Intn(3) {
		switch {
		case g.Intn(2) == 0 && len(l) > 0:
			l[g.Intn(len(l))].Rights = 1 + g.Intn(15)
		case g.Intn(2) == 0 && len(l) > 0:
			i := g.Intn(len(l))
			l = slices.Delete(l, i, i+1)
		default:
			e := pick(g, few())
			if k := append(slices.Clone(l), given(e)); isValid(k) {
				l = k
			}
			e.Given = false
			if k := append([]api.Ace{e}, l...); isValid(k) {
				l = k
			}
		}
	}
	return l
}

// hasChanges reports whether out has what mine changed of base.
func hasChanges(base, mine, out []api.Ace) bool {
	for _, e := range slices.Concat(base, mine) {
		if rightsAt(mine, e) != rightsAt(base, e) && rightsAt(out, e) != rightsAt(mine, e) {
			return false
		}
	}
	return true
}

// P2.1 (B7) and P2.6: any valid lists that came from one.
func TestMerging(t *testing.T) {
	g := rand.New(rand.NewSource(4))
	clashes := 0
	for _, base := range valids() {
		mine, theirs := changed(g, base), changed(g, base)
		got, is := acl.Merge(base, mine, theirs)
		if want, ok := merge(base, mine, theirs); !slices.Equal(got, want) || is != ok {
			t.Fatalf("Merge of %v, %v, %v: %v, %v", base, mine, theirs, got, is)
		}
		back, also := acl.Merge(base, theirs, mine)
		if is != also || len(got) != len(back) {
			t.Fatalf("Merge of %v, %v, %v: %v, %v, and the other way round %v, %v", base, mine, theirs, got, is, back, also)
		}
		if !is {
			clashes++
			continue
		}
		if !isValid(got) || !hasChanges(base, mine, got) || !hasChanges(base, theirs, got) {
			t.Fatalf("Merge of %v, %v, %v: %v", base, mine, theirs, got)
		}
		for _, e := range slices.Concat(got, back) {
			if rightsAt(got, e) != rightsAt(back, e) {
				t.Fatalf("Merge of %v, %v, %v: %v, and the other way round %v", base, mine, theirs, got, back)
			}
			if x := rightsAt(got, e); x != rightsAt(base, e) && x != rightsAt(mine, e) && x != rightsAt(theirs, e) {
				t.Fatalf("Merge of %v, %v, %v: %v has %v", base, mine, theirs, got, e)
			}
		}
	}
	if clashes < 20 {
		t.Errorf("only %d merges clashed", clashes)
	}
}

// P2.1 (B7): valid lists that did not come from one.
func TestMergeStrangers(t *testing.T) {
	g := rand.New(rand.NewSource(5))
	for range 20000 {
		base, mine, theirs := someValid(g, 3), someValid(g, 3), someValid(g, 3)
		got, is := acl.Merge(base, mine, theirs)
		if want, ok := merge(base, mine, theirs); !slices.Equal(got, want) || is != ok {
			t.Fatalf("Merge of %v, %v, %v: %v, %v", base, mine, theirs, got, is)
		}
		if _, also := acl.Merge(base, theirs, mine); is != also {
			t.Fatalf("Merge of %v, %v, %v: %v, and the other way round %v", base, mine, theirs, is, also)
		}
	}
}

package acl_test

import (
	"math/rand"
	"slices"
	"testing"

	"burgage/acl"
	"burgage/api"
)

// answers has the results of all functions for some arguments: the lists, and all else.
func answers(a, b, c []api.Ace, e api.Ace, dir bool) ([][]api.Ace, []any) {
	put, err := acl.Put(a, e)
	merged, is := acl.Merge(a, b, c)
	got := [][]api.Ace{acl.Child(a, dir), acl.Again(a, b, dir), put, merged}
	return got, []any{err, is, acl.Valid(a), acl.Same(a, b), acl.Rights(a, e.Who, e.Reach), acl.Allows(a, e.Who, e.Reach, e.Rights)}
}

// roomy returns a list with room behind it, and all of that memory, in which a stray entry shows.
func roomy(l []api.Ace) (part, whole []api.Ace) {
	whole = append(slices.Clone(l), list(allow(901, r, api.Both), allow(902, r, api.Both), allow(903, r, api.Both), allow(904, r, api.Both))...)
	return whole[:len(l)], whole
}

// P1 and P2 of the document, and B9: all values are accepted, no argument is modified, the same arguments have the same results, and these are new memory.
func TestAllArguments(t *testing.T) {
	g := rand.New(rand.NewSource(6))
	all := lists()
	for i, base := range all {
		x := [][]api.Ace{base, all[(17*i+3)%len(all)], all[(19*i+9)%len(all)]}
		if isValid(base) {
			x[1], x[2] = changed(g, base), changed(g, base)
		}
		e := pick(g, few())
		e.Given = false
		if i%3 == 0 {
			e = api.Ace{Who: pick(g, odd), Allow: true, Rights: pick(g, odd), Reach: pick(g, odd)}
		}
		var parts, wholes, kept [][]api.Ace
		for _, l := range x {
			part, whole := roomy(l)
			parts, wholes, kept = append(parts, part), append(wholes, whole), append(kept, slices.Clone(whole))
		}
		got, rest := answers(parts[0], parts[1], parts[2], e, i%2 == 0)
		again, restAgain := answers(x[0], x[1], x[2], e, i%2 == 0)
		if !slices.EqualFunc(got, again, slices.Equal[[]api.Ace]) || !slices.Equal(rest, restAgain) {
			t.Fatalf("%v, %v: %v, %v, and again %v, %v", x, e, got, rest, again, restAgain)
		}
		for _, l := range got {
			l = l[:cap(l)]
			for j := range l {
				l[j] = deny(-2, 15, api.Under)
			}
		}
		for j := range wholes {
			if !slices.Equal(wholes[j], kept[j]) {
				t.Fatalf("%v, %v: the list %d has become %v", x, e, j, wholes[j])
			}
		}
	}
}

// P2 of the document: what was asked before, and how long the memory of a list is, does not matter.
func TestNilAndEmpty(t *testing.T) {
	l := list(allow(5, r, api.Both), given(deny(6, w, api.Here)))
	for _, none := range [][]api.Ace{nil, {}, make([]api.Ace, 0, 8), l[:0]} {
		child, again := acl.Child(none, true), acl.Again(none, none, false)
		put, err := acl.Put(none, l[0])
		merged, is := acl.Merge(none, none, l)
		if !acl.Valid(none) || !acl.Same(none, nil) || acl.Rights(none, 5, 6) != 0 || !acl.Allows(none, 5, 6, 0) || len(child) != 0 || len(again) != 0 {
			t.Errorf("%#v: %v, %v", none, child, again)
		}
		if !slices.Equal(put, l[:1]) || err != api.OK || !slices.Equal(merged, l) || !is {
			t.Errorf("%#v: %v, %v, %v, %v", none, put, err, merged, is)
		}
	}
}

// P1 of the document: long lists, in which no entry is like another one, or all are alike.
func TestLongLists(t *testing.T) {
	const k = 200000
	l := many(k, 0)
	same := slices.Repeat(list(allow(5, w, api.Under)), k)
	if acl.Valid(l) || acl.Valid(same) || !acl.Same(l, many(k, 0)) || acl.Same(l, same) {
		t.Error("Valid or Same of long lists")
	}
	if acl.Rights(l, k-1, 5) != r || acl.Rights(same, 5, 6) != 0 || !acl.Allows(l, k-1, 5, r) {
		t.Error("Rights of long lists")
	}
	if len(acl.Child(l, true)) != k || !slices.Equal(acl.Child(same, false), list(given(allow(5, w, api.Here)))) {
		t.Error("Child of long lists")
	}
	if got := acl.Again(l, l, true); len(got) != 2*k {
		t.Errorf("Again of long lists has %d entries", len(got))
	}
	if got, err := acl.Put(l, allow(5, 0, api.Both)); len(got) != 0 || err != api.ErrAcl {
		t.Errorf("Put into a long list: %v", err)
	}
	acl.Merge(l, same, many(k, 5))
}

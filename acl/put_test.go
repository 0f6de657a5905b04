package acl_test

import (
	"math"
	"math/rand"
	"slices"
	"testing"

	"burgage/acl"
	"burgage/api"
)

// P2.1 (B6): where an entry is put, and the errors in their order.
func TestPut(t *testing.T) {
	a, b, c := allow(5, r, api.Both), deny(6, w, api.Here), given(allow(7, n, api.Both))
	full := append(many(15, 100), given(allow(1, r, api.Both)))
	for _, x := range []struct {
		l    []api.Ace
		e    api.Ace
		want []api.Ace
		err  api.Errno
	}{
		{nil, a, list(a), api.OK},
		{list(a), b, list(a, b), api.OK},
		{list(a, c), b, list(a, b, c), api.OK},
		{list(c), b, list(b, c), api.OK},
		{list(a, b, c), allow(5, w, api.Both), list(allow(5, w, api.Both), b, c), api.OK},
		{list(a, b, c), deny(5, r, api.Both), list(a, b, deny(5, r, api.Both), c), api.OK},
		{list(a, b, c), allow(7, r, api.Both), list(a, b, allow(7, r, api.Both), c), api.OK},
		{list(a, b, c), allow(5, 0, api.Both), list(b, c), api.OK},
		{list(a, b, c), deny(6, 0, api.Here), list(a, c), api.OK},
		{list(a, b, c), allow(7, 0, api.Both), list(a, b, c), api.OK},
		{list(a), allow(5, 0, api.Here), list(a), api.OK},
		{list(a), allow(5, 0, api.Both), nil, api.OK},
		{nil, deny(-2, 0, api.Under), nil, api.OK},
		{nil, deny(-2, 15, api.Under), list(deny(-2, 15, api.Under)), api.OK},
		{nil, allow(999, 15, api.Here), list(allow(999, 15, api.Here)), api.OK},
		{nil, deny(-3, r, api.Both), nil, api.ErrAcl},
		{nil, deny(1000, r, api.Both), nil, api.ErrAcl},
		{nil, deny(1000, 0, api.Both), nil, api.ErrAcl},
		{nil, deny(5, -1, api.Both), nil, api.ErrAcl},
		{nil, deny(5, 16, api.Both), nil, api.ErrAcl},
		{nil, deny(5, math.MinInt, api.Both), nil, api.ErrAcl},
		{nil, deny(5, r, 0), nil, api.ErrAcl},
		{nil, deny(5, 0, 4), nil, api.ErrAcl},
		{list(a), given(a), nil, api.ErrAcl},
		{list(c), given(allow(7, 0, api.Both)), nil, api.ErrAcl},
		{list(a, a), b, nil, api.ErrAcl},
		{list(a, a), allow(5, 0, api.Both), nil, api.ErrAcl},
		{list(c, a), b, nil, api.ErrAcl},
		{list(deny(5, 0, api.Both)), b, nil, api.ErrAcl},
		{many(17, 100), b, nil, api.ErrAcl},
		{many(17, 100), allow(100, 0, api.Both), nil, api.ErrAcl},
		{full, b, nil, api.ErrBig},
		{full, given(b), nil, api.ErrAcl},
		{full, deny(6, w, 0), nil, api.ErrAcl},
		{full, deny(6, 0, api.Here), full, api.OK},
		{full, allow(100, 15, api.Both), slices.Concat(list(allow(100, 15, api.Both)), full[1:]), api.OK},
		{full, allow(100, 0, api.Both), full[1:], api.OK},
	} {
		if got, err := acl.Put(x.l, x.e); !slices.Equal(got, x.want) || err != x.err {
			t.Errorf("Put of %v, %v: %v, %v", x.l, x.e, got, err)
		}
	}
}

// put says it as the chapter does.
func put(l []api.Ace, e api.Ace) ([]api.Ace, api.Errno) {
	right := e
	if right.Rights == 0 {
		right.Rights = 1
	}
	if !isValid(l) || e.Given || !isValid(list(right)) {
		return nil, api.ErrAcl
	}
	var out []api.Ace
	done := e.Rights == 0
	for _, x := range l {
		if x.Given && !done && at(l, e) < 0 {
			out = append(out, e)
			done = true
		}
		if !alike(x, e) {
			out = append(out, x)
		} else if e.Rights != 0 {
			out = append(out, e)
			done = true
		}
	}
	if !done {
		out = append(out, e)
	}
	if len(out) > 16 {
		return nil, api.ErrBig
	}
	return out, api.OK
}

// P2.1 (B6): all lists, with entries that are right and others.
func TestPutLists(t *testing.T) {
	g := rand.New(rand.NewSource(2))
	for _, l := range lists() {
		for _, e := range slices.Concat(someList(g, 4), someValid(g, 4), list(allow(5, 0, api.Both), deny(-2, 0, api.Here), allow(8, m, api.Under))) {
			got, err := acl.Put(l, e)
			if want, errWant := put(l, e); !slices.Equal(got, want) || err != errWant {
				t.Fatalf("Put of %v, %v: %v, %v", l, e, got, err)
			}
		}
	}
}

// without returns l without the entry with the mark of e.
func without(l []api.Ace, e api.Ace) []api.Ace {
	return slices.DeleteFunc(slices.Clone(l), func(x api.Ace) bool { return alike(x, e) })
}

// P2.5: what is put is there, among the own entries, and what is removed is gone; all else stays, in its order.
func TestPutting(t *testing.T) {
	g := rand.New(rand.NewSource(3))
	for _, l := range valids() {
		e := pick(g, few())
		e.Given, e.Rights = false, g.Intn(16)
		got, err := acl.Put(l, e)
		if err != api.OK {
			if err != api.ErrBig || len(l) < 16 || at(l, e) >= 0 || e.Rights == 0 || len(got) != 0 {
				t.Fatalf("Put of %v, %v: %v, %v", l, e, got, err)
			}
			continue
		}
		if !isValid(got) || rightsAt(got, e) != e.Rights || !slices.Equal(without(got, e), without(l, e)) {
			t.Fatalf("Put of %v, %v: %v", l, e, got)
		}
		if i := at(l, e); i >= 0 && e.Rights != 0 && at(got, e) != i {
			t.Fatalf("Put of %v, %v at another place: %v", l, e, got)
		}
		if twice, err := acl.Put(got, e); !slices.Equal(twice, got) || err != api.OK {
			t.Fatalf("Put of %v, %v twice: %v, %v", l, e, twice, err)
		}
		e.Rights = 0
		if gone, err := acl.Put(got, e); at(gone, e) >= 0 || !slices.Equal(gone, without(l, e)) || err != api.OK {
			t.Fatalf("Put of %v, %v: %v, %v", got, e, gone, err)
		}
	}
}

// P2.7: lists of 16 entries and of 17, in every function that has the limit.
func TestLimits(t *testing.T) {
	for k := range 40 {
		l := many(k, 100)
		mixed := slices.Clone(l)
		for i := k / 2; i < k; i++ {
			mixed[i].Given = true
		}
		if acl.Valid(l) != (k <= 16) || acl.Valid(mixed) != (k <= 16) {
			t.Errorf("Valid of %d entries", k)
		}
		want := api.OK
		switch {
		case k > 16:
			want = api.ErrAcl
		case k == 16:
			want = api.ErrBig
		}
		if got, err := acl.Put(l, deny(5, r, api.Here)); err != want || err == api.OK && len(got) != k+1 {
			t.Errorf("Put into %d entries: %v, %v", k, got, err)
		}
		if got := acl.Again(l, many(16, 0), true); len(got) != k+16 {
			t.Errorf("Again of %d entries and 16: %v", k, got)
		}
		if got := acl.Child(l, true); len(got) != k {
			t.Errorf("Child of %d entries: %v", k, got)
		}
		if k > 16 {
			continue
		}
		for j := range 17 {
			got, is := acl.Merge(nil, l, many(j, 200))
			if is != (k+j <= 16) || is && len(got) != k+j || !is && len(got) != 0 {
				t.Errorf("Merge of %d and %d new entries: %v, %v", k, j, got, is)
			}
		}
	}
}

package charge_test

import (
	"math"
	"math/rand"
	"slices"
	"testing"

	"burgage/api"
	"burgage/charge"
	"burgage/tree"
)

// P10.1: the examples of the chapter.
func TestExamples(t *testing.T) {
	s := done(t, tree.New(5), api.Op{Kind: api.Create, Path: "a"}, api.Op{Kind: api.Write, Path: "a", Id: 1, N: 3})
	if got := charge.Of(s); !slices.Equal(got, accounts(account(0, 1, 3), account(5, 1, 0))) {
		t.Errorf("Of: %v", got)
	}
	x := api.Op{Kind: api.Write, Path: "a", Off: 2, Id: 1, N: 4}
	if got := charge.Delta(s, x); !slices.Equal(got, accounts(account(0, 0, 3))) {
		t.Errorf("Delta: %v", got)
	}
	if !charge.Blocks(s, x, limits(limit(0, 5, 5))) || charge.Blocks(s, x, limits(limit(0, 5, 6))) {
		t.Error("Blocks with 5 bytes, or with 6")
	}
	if got := charge.Held(s, snaps(s)); !slices.Equal(got, []int{3, 0}) {
		t.Errorf("Held: %v", got)
	}
}

// P10.1, P10.2 (J1): directories, files, files with two entries, and open ones without entries; holes and erased bytes.
func TestOf(t *testing.T) {
	for _, e := range []struct {
		t    api.Tree
		want []api.Account
	}{
		{tree.New(0), accounts(account(0, 1, 0))},
		{tree.New(999), accounts(account(999, 1, 0))},
		{sample(), accounts(account(5, 3, 8), account(6, 2, 10), account(7, 2, 3), account(8, 3, 4))},
		{files(nil), accounts(account(0, 2, 0))},
		{files(body(hole(3)), body(gone(4)), body(of(7, 5, 2))), accounts(account(0, 2, 3), account(1, 1, 4), account(2, 1, 2))},
		{files(body(hole(most)), body(gone(most)), body(of(4095, 0, most))), accounts(account(0, 2, most), account(1, 1, most), account(2, 1, most))},
		{files(body(of(7, 0, 2), of(7, 0, 2), hole(1), of(7, 0, 2), gone(1))), accounts(account(0, 2, 8))},
	} {
		if got := charge.Of(e.t); !tree.Valid(e.t) || !slices.Equal(got, e.want) {
			t.Errorf("%v: %v, not %v", e.t, got, e.want)
		}
	}
}

// P10.1, P10.2 (J1): as many nodes as there may be, whose owners are all different, and in another order; and bodies of as many bytes as there may be.
func TestOfMany(t *testing.T) {
	s := tree.New(999)
	s.Next = api.MaxNodes + 1
	var want []api.Account
	for i := range api.MaxNodes - 1 {
		owner := (i*7 + 3) % 255
		s.Nodes = append(s.Nodes, api.Node{Id: i + 2, Kind: api.File, Owner: owner, Links: 1, Body: body(hole(most - owner))})
		s.Nodes[0].List = append(s.Nodes[0].List, api.Entry{Name: string([]byte{'a' + byte(i/16), 'a' + byte(i%16)}), Id: i + 2})
		want = append(want, account(i, 1, most-i))
	}
	if got := charge.Of(s); !tree.Valid(s) || !slices.Equal(got, append(want, account(999, 1, 0))) {
		t.Errorf("of many owners: %v", got)
	}
	for i := range s.Nodes {
		s.Nodes[i].Owner = 7
	}
	if got := charge.Of(s); !slices.Equal(got, accounts(account(7, 256, 255*most-255*254/2))) {
		t.Errorf("of one owner: %v", got)
	}
}

// P10.2 (J1, J2): all nodes and all bytes are in exactly one account, whatever is done.
func TestSums(t *testing.T) {
	walks(t, 1, func(_, s api.Tree, x api.Op, _ api.Errno) {
		got := charge.Of(s)
		if want := listOf(byOwner(s)); !slices.Equal(got, want) {
			t.Fatalf("Of after %v: %v, not %v", x, got, want)
		}
		all := use(len(s.Nodes), 0)
		for _, n := range s.Nodes {
			for _, p := range n.Body {
				all.Bytes += p.N
			}
		}
		if charge.All(got) != all {
			t.Fatalf("All after %v: %v, not %v", x, charge.All(got), all)
		}
	})
}

// P10.1 (J2): sums and single accounts, also of owners that have none, and of changes.
func TestAllAndGet(t *testing.T) {
	l := accounts(account(0, 1, 3), account(5, 0, -2), account(6, -4, 0), account(999, 7, 9))
	if got := charge.All(l); got != use(4, 10) {
		t.Errorf("All: %v", got)
	}
	want := map[int]api.Use{0: use(1, 3), 5: use(0, -2), 6: use(-4, 0), 999: use(7, 9)}
	for _, owner := range append([]int{0, 1, 4, 5, 6, 7, 998, 999}, odd...) {
		if got := charge.Get(l, owner); got != want[owner] {
			t.Errorf("Get of %d: %v", owner, got)
		}
	}
	for _, l := range [][]api.Account{nil, {}} {
		if charge.All(l) != use(0, 0) || charge.Get(l, 0) != use(0, 0) || charge.Get(l, api.Everyone) != use(0, 0) {
			t.Error("there is something in no accounts")
		}
	}
}

// P10.1, P10.7 (J4): accounts of one of both, or of both; numbers that become zero, in one of them or both.
func TestAdd(t *testing.T) {
	for _, e := range []struct{ l, d, want []api.Account }{
		{nil, nil, nil},
		{accounts(account(5, 1, 2)), nil, accounts(account(5, 1, 2))},
		{nil, accounts(account(5, -1, 0)), accounts(account(5, -1, 0))},
		{accounts(account(5, 1, 2)), accounts(account(5, 3, 5)), accounts(account(5, 4, 7))},
		{accounts(account(5, 1, 2)), accounts(account(5, -1, -2)), nil},
		{accounts(account(5, 1, 2)), accounts(account(5, -1, 0)), accounts(account(5, 0, 2))},
		{accounts(account(5, 1, 2)), accounts(account(5, 0, -2)), accounts(account(5, 1, 0))},
		{accounts(account(5, 1, 2)), accounts(account(5, -2, -3)), accounts(account(5, -1, -1))},
		{accounts(account(5, 1, -1)), accounts(account(5, -1, 1)), nil},
		{accounts(account(5, 1, 2)), accounts(account(0, 3, 4)), accounts(account(0, 3, 4), account(5, 1, 2))},
		{accounts(account(5, 1, 2)), accounts(account(999, 3, 4)), accounts(account(5, 1, 2), account(999, 3, 4))},
		{accounts(account(0, 1, 1), account(5, 2, 2), account(9, 3, 3)), accounts(account(0, 1, 0), account(4, 8, 8), account(5, -2, -2), account(10, 0, 7)), accounts(account(0, 2, 1), account(4, 8, 8), account(9, 3, 3), account(10, 0, 7))},
		{accounts(account(1, math.MaxInt, math.MinInt)), accounts(account(1, -math.MaxInt, 1)), accounts(account(1, 0, math.MinInt+1))},
		{accounts(account(1, 1<<62, -1<<62)), accounts(account(1, 1<<62-1, -1<<62)), accounts(account(1, math.MaxInt, math.MinInt))},
	} {
		if got := charge.Add(e.l, e.d); !slices.Equal(got, e.want) {
			t.Errorf("%v and %v: %v, not %v", e.l, e.d, got, e.want)
		}
	}
}

// P10.7 (J4): the order of adding does not matter, the negative leads back, and sums add up.
func TestAddInAnyOrder(t *testing.T) {
	g := rand.New(rand.NewSource(2))
	for range 20000 {
		a, b, c := someAccounts(g), someAccounts(g), someAccounts(g)
		ab := charge.Add(a, b)
		if !slices.Equal(ab, charge.Add(b, a)) || !slices.Equal(charge.Add(ab, c), charge.Add(a, charge.Add(b, c))) {
			t.Fatalf("%v, %v, %v in two orders", a, b, c)
		}
		if got := charge.Add(ab, negated(b)); !slices.Equal(got, a) {
			t.Fatalf("%v and %v and back: %v", a, b, got)
		}
		if got := charge.Add(a, negated(a)); len(got) > 0 {
			t.Fatalf("%v and its negative: %v", a, got)
		}
		uses := map[int]api.Use{}
		for _, l := range [][]api.Account{a, b} {
			for _, x := range l {
				u := uses[x.Owner]
				uses[x.Owner] = use(u.Nodes+x.Use.Nodes, u.Bytes+x.Use.Bytes)
			}
		}
		if !slices.Equal(ab, listOf(uses)) || charge.All(ab) != limitedUse(uses, api.Everyone) {
			t.Fatalf("%v and %v: %v", a, b, ab)
		}
		for _, owner := range []int{-1, 0, 1, 2, 3, 5, 998, 999, 1000} {
			if charge.Get(ab, owner) != uses[owner] {
				t.Fatalf("%d in %v and %v: %v", owner, a, b, charge.Get(ab, owner))
			}
		}
	}
}

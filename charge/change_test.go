package charge_test

import (
	"math"
	"math/rand"
	"slices"
	"testing"

	"burgage/api"
	"burgage/charge"
	"burgage/tree"
)

// change is an operation on the sample, and what it does to accounts.
type change struct {
	x    api.Op
	want []api.Account
}

// changes are operations of all kinds that have no error.
func changes() []change {
	ruler := []api.Ace{{Who: 6, Allow: true, Rights: api.MayRead, Reach: api.Both}}
	return []change{
		{api.Op{Kind: api.Mkdir, Path: "z"}, accounts(account(0, 1, 0))},
		{api.Op{Kind: api.Mkdir, Who: 5, Path: "z"}, accounts(account(5, 1, 0))},
		{api.Op{Kind: api.Create, Path: "k/z"}, accounts(account(0, 1, 0))},
		{api.Op{Kind: api.Create, Who: 5, Path: "z"}, accounts(account(5, 1, 0))},
		{api.Op{Kind: api.Write, Path: "a/f", Off: 10, Id: 3, N: 4}, accounts(account(6, 0, 4))},
		{api.Op{Kind: api.Write, Path: "a/f", Off: 8, Id: 3, N: 4}, accounts(account(6, 0, 2))},
		{api.Op{Kind: api.Write, Path: "a/f", Off: 2, Id: 3, N: 4}, nil},
		{api.Op{Kind: api.Write, Path: "k/t", Off: 5, Id: 3, N: 4}, accounts(account(6, 0, 9))},
		{api.Op{Kind: api.Append, Path: "a/s", Id: 3, N: 4}, accounts(account(5, 0, 4))},
		{api.Op{Kind: api.Append, Path: "l", Id: 3, N: 4}, accounts(account(5, 0, 4))},
		{api.Op{Kind: api.Cut, Path: "a/f", N: 4}, accounts(account(6, 0, -6))},
		{api.Op{Kind: api.Cut, Path: "a/f", N: 10}, nil},
		{api.Op{Kind: api.Cut, Path: "w", N: 10}, accounts(account(7, 0, 7))},
		{api.Op{Kind: api.Cut, Path: "w", N: most}, accounts(account(7, 0, most-3))},
		{api.Op{Kind: api.Link, Path: "a/f", To: "z"}, nil},
		{api.Op{Kind: api.Unlink, Path: "a/f"}, accounts(account(6, -1, -10))},
		{api.Op{Kind: api.Unlink, Path: "k/t"}, accounts(account(6, -1, 0))},
		{api.Op{Kind: api.Unlink, Path: "l"}, nil},
		{api.Op{Kind: api.Unlink, Path: "w"}, nil},
		{api.Op{Kind: api.Rmdir, Path: "e"}, accounts(account(8, -1, 0))},
		{api.Op{Kind: api.Rename, Path: "a", To: "z"}, nil},
		{api.Op{Kind: api.Rename, Path: "k", To: "e"}, accounts(account(8, -1, 0))},
		{api.Op{Kind: api.Rename, Path: "k/t", To: "a/f"}, accounts(account(6, -1, -10))},
		{api.Op{Kind: api.Rename, Path: "a/f", To: "a/s"}, accounts(account(5, -1, -3))},
		{api.Op{Kind: api.Rename, Path: "a/f", To: "l"}, nil},
		{api.Op{Kind: api.Rename, Path: "a/g", To: "l"}, nil},
		{api.Op{Kind: api.Rename, Path: "a/f", To: "w"}, nil},
		{api.Op{Kind: api.SetAcl, Path: "a", Acl: ruler}, nil},
		{api.Op{Kind: api.Chown, Path: "a/f", N: 6}, nil},
		{api.Op{Kind: api.Chown, Path: "a/f", N: 5}, accounts(account(5, 1, 10), account(6, -1, -10))},
		{api.Op{Kind: api.Chown, Path: "a/f", N: 0}, accounts(account(0, 1, 10), account(6, -1, -10))},
		{api.Op{Kind: api.Chown, Path: "k/t", N: 999}, accounts(account(6, -1, 0), account(999, 1, 0))},
		{api.Op{Kind: api.Chown, Who: 5, Path: "", N: 6}, accounts(account(5, -1, 0), account(6, 1, 0))},
		{api.Op{Kind: api.OpenFile, Path: "a/f"}, nil},
		{api.Op{Kind: api.CloseFile, Who: 5, N: 10}, nil},
		{api.Op{Kind: api.CloseFile, Who: 6, N: 11}, nil},
		{api.Op{Kind: api.List, Path: "a"}, nil},
		{api.Op{Kind: api.Stat, Path: "a/f"}, nil},
		{api.Op{Kind: api.Read, Path: "a/f", N: 4}, nil},
		{api.Op{Kind: api.Read, Who: 8, Id: 10, N: 4}, nil},
	}
}

// refused are operations that have errors, of kinds that there are, and of others.
func refused() []api.Op {
	l := []api.Op{
		{Kind: api.Mkdir, Path: "a"}, {Kind: api.Mkdir, Path: ""}, {Kind: api.Mkdir, Who: 6, Path: "z"},
		{Kind: api.Create, Path: "a/f"}, {Kind: api.Create, Path: "z/z"}, {Kind: api.Create, Who: 7, Path: "k/z"},
		{Kind: api.Write, Path: "a", Id: 3, N: 4}, {Kind: api.Write, Path: "a/f", Off: most, Id: 3, N: 1}, {Kind: api.Write, Path: "a/f", Id: 0, N: 1}, {Kind: api.Write, Path: "a/f", Off: -1, Id: 3, N: 1},
		{Kind: api.Append, Path: "a/f", Id: 3, N: most - 9}, {Kind: api.Append, Path: "a/f", Id: 4096, N: 1}, {Kind: api.Append, Path: "a/f", Id: 3, N: math.MaxInt},
		{Kind: api.Cut, Path: "a/f", N: -1}, {Kind: api.Cut, Path: "a/f", N: most + 1}, {Kind: api.Cut, Who: 6, Path: "a/f"},
		{Kind: api.Link, Path: "a", To: "z"}, {Kind: api.Unlink, Path: "e"}, {Kind: api.Unlink, Path: "z"}, {Kind: api.Rmdir, Path: "a"}, {Kind: api.Rmdir, Path: "w"},
		{Kind: api.Rename, Path: "a", To: "a/z"}, {Kind: api.Rename, Path: "e", To: "k"}, {Kind: api.SetAcl, Who: 5, Path: "a"},
		{Kind: api.Chown, Path: "a/f", N: -1}, {Kind: api.Chown, Path: "a/f", N: 1000}, {Kind: api.Chown, Who: 5, Path: "w", N: 5}, {Kind: api.Chown, Path: "a//f", N: 5},
		{Kind: api.OpenFile, Path: "a"}, {Kind: api.CloseFile, N: 10}, {Kind: api.List, Path: "w"}, {Kind: api.Stat, Path: "z"}, {Kind: api.Read, Path: "a/f", N: -1},
		{Kind: 0, Path: "z"}, {Kind: 17, Path: "z"},
	}
	for _, n := range odd {
		l = append(l, api.Op{Kind: n, Path: "z"}, api.Op{Kind: api.Create, Who: n, Path: "z"}, api.Op{Kind: api.Chown, Who: n, Path: "a/f", N: 5}, api.Op{Kind: api.Chown, Path: "a/f", N: n})
		if n < 0 || n > most {
			l = append(l, api.Op{Kind: api.Write, Path: "a/f", Off: n, Id: 3, N: n}, api.Op{Kind: api.Append, Path: "a/f", Id: 3, N: n}, api.Op{Kind: api.Append, Path: "a/f", Id: n, N: 1}, api.Op{Kind: api.Cut, Path: "a/f", N: n})
		}
	}
	return l
}

// P10.1, P10.3 (J3): operations of all kinds.
func TestDelta(t *testing.T) {
	seen := map[int]bool{}
	for _, c := range changes() {
		if _, reply := tree.Do(sample(), c.x, 1); reply.E != api.OK {
			t.Fatalf("%v: %v", c.x, reply.E)
		}
		if got := charge.Delta(sample(), c.x); !slices.Equal(got, c.want) {
			t.Errorf("%v: %v, not %v", c.x, got, c.want)
		}
		seen[c.x.Kind] = true
	}
	if len(seen) != api.Read {
		t.Errorf("the kinds were %v", seen)
	}
}

// P10.1, P10.3 (J3): a file that is open goes when the last one closes it.
func TestDeltaOfTheLast(t *testing.T) {
	s := done(t, sample(), api.Op{Kind: api.Unlink, Path: "w"})
	if got := charge.Delta(s, api.Op{Kind: api.CloseFile, Who: 6, N: 11}); !slices.Equal(got, accounts(account(7, -1, -3))) {
		t.Errorf("w: %v", got)
	}
	s, _ = tree.Do(s, api.Op{Kind: api.CloseFile, Who: 5, N: 10}, 1)
	if got := charge.Delta(s, api.Op{Kind: api.CloseFile, Who: 8, N: 10}); !slices.Equal(got, accounts(account(8, -1, -4))) {
		t.Errorf("without a name: %v", got)
	}
}

// P10.1, P10.3 (J3, J8): nothing changes with an error, and nothing is blocked.
func TestErrors(t *testing.T) {
	for _, x := range refused() {
		if _, reply := tree.Do(sample(), x, 1); reply.E == api.OK {
			t.Fatalf("%v: no error", x)
		}
		if got := charge.Delta(sample(), x); len(got) > 0 {
			t.Errorf("Delta of %v: %v", x, got)
		}
		if charge.Blocks(sample(), x, limits(limit(api.Everyone, 0, 0), limit(0, 0, 0), limit(5, 0, 0), limit(6, 0, 0))) {
			t.Errorf("%v is blocked", x)
		}
	}
}

// P10.3 (J3, J4): the accounts after an operation are those before, and its changes.
func TestChanges(t *testing.T) {
	walks(t, 11, func(before, after api.Tree, x api.Op, e api.Errno) {
		d := charge.Delta(before, x)
		if want := grown(byOwner(before), byOwner(after)); !slices.Equal(d, want) {
			t.Fatalf("%v: %v, not %v", x, d, want)
		}
		if e != api.OK && len(d) > 0 || tree.Reads(x.Kind) && len(d) > 0 {
			t.Fatalf("%v, %v: %v", x, e, d)
		}
		if got := charge.Add(charge.Of(before), d); !slices.Equal(got, charge.Of(after)) {
			t.Fatalf("%v: %v, not %v", x, got, charge.Of(after))
		}
	})
}

// P10.5 (J1, J2, J3): a new owner has the use of what is given away, and the one before has it no more; the sum stays.
func TestOwners(t *testing.T) {
	g := rand.New(rand.NewSource(12))
	given := 0
	walks(t, 13, func(s, _ api.Tree, _ api.Op, _ api.Errno) {
		n := pick(g, s.Nodes)
		paths := tree.Paths(s, n.Id)
		if len(paths) == 0 {
			return
		}
		x := api.Op{Kind: api.Chown, Path: pick(g, paths), N: pick(g, []int{0, 5, 6, 7, 8, 999})}
		before, after := charge.Of(s), charge.Of(done(t, s, x))
		if charge.All(before) != charge.All(after) {
			t.Fatalf("%v: %v became %v", x, before, after)
		}
		if x.N == n.Owner {
			if !slices.Equal(before, after) || len(charge.Delta(s, x)) > 0 {
				t.Fatalf("%v: %v became %v", x, before, after)
			}
			return
		}
		size := byOwner(api.Tree{Nodes: []api.Node{n}})[n.Owner].Bytes
		d := charge.Delta(s, x)
		if charge.Get(d, x.N) != use(1, size) || charge.Get(d, n.Owner) != use(-1, -size) || len(d) != 2 || charge.All(d) != use(0, 0) {
			t.Fatalf("%v, with %d bytes: %v", x, size, d)
		}
		given++
	})
	if given < 500 {
		t.Errorf("only %d nodes were given away", given)
	}
}

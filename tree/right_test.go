package tree_test

import (
	"testing"

	"burgage/api"
	"burgage/tree"
)

// rules is a short name, as r, w and x are.
const rules = api.MayRule

// needed are the rights that an operation of 5 needs at nodes of the tree of TestRights.
type needed struct {
	x      api.Op
	rights map[string]int
}

// needs has operations of each kind that have no error, if the rights are there.
func needs() []needed {
	place := map[string]int{"": x, "d": x | w}
	places := map[string]int{"": x, "d": x | w, "e": x | w}
	return []needed{
		{mkdir("d/z"), place},
		{create("d/z"), place},
		{api.Op{Kind: api.Write, Path: "d/f", Id: 1, N: 1}, map[string]int{"": x, "d": x, "d/f": w}},
		{put("d/f", 1), map[string]int{"": x, "d": x, "d/f": w}},
		{api.Op{Kind: api.Cut, Path: "d/f"}, map[string]int{"": x, "d": x, "d/f": w}},
		{link("d/f", "e/z"), map[string]int{"": x, "d": x, "e": x | w}},
		{unlink("d/f"), place},
		{rmdir("d/s"), place},
		{rename("d/f", "e/z"), places},
		{rename("d/f", "e/g"), places},
		{rename("d/s", "e/s"), places},
		{rename("d/f", "d/z"), place},
		{api.Op{Kind: api.SetAcl, Path: "d/f"}, map[string]int{"": x, "d": x, "d/f": rules}},
		{api.Op{Kind: api.SetAcl, Path: "d"}, map[string]int{"": x, "d": rules}},
		{api.Op{Kind: api.Chown, Path: "d/f", N: 7}, map[string]int{"": x, "d": x, "d/f": rules}},
		{api.Op{Kind: api.Chown}, map[string]int{"": rules}},
		{api.Op{Kind: api.OpenFile, Path: "d/f"}, map[string]int{"": x, "d": x, "d/f": r}},
		{api.Op{Kind: api.CloseFile, N: 7}, nil},
		{api.Op{Kind: api.List, Path: "d"}, map[string]int{"": x, "d": r}},
		{api.Op{Kind: api.List}, map[string]int{"": r}},
		{stat("d/f"), map[string]int{"": x, "d": x}},
		{stat("d"), map[string]int{"": x}},
		{stat(""), nil},
		{api.Op{Kind: api.Read, Path: "d/f", N: 1}, map[string]int{"": x, "d": x, "d/f": r}},
		{api.Op{Kind: api.Read, Id: 7, N: 1}, nil},
	}
}

// P9.7 (I3): each right that an operation needs at a node, and no other one: with all but one, it is denied, and nothing is changed; 0 is never denied, and others than 0 and the owner have what the list says.
func TestRights(t *testing.T) {
	s := done(t, tree.New(9), mkdir("d"), mkdir("e"), create("d/f"), mkdir("d/s"), mkdir("e/s"), create("e/g"))
	for i := range s.Nodes {
		s.Nodes[i].Owner = 9
	}
	s.Opens = []api.Open{{Node: 7, Who: 0}, {Node: 7, Who: 5}}
	paths := []string{"", "d", "e", "d/f", "d/s", "e/s", "e/g"}
	// give returns the tree in which 5 has these rights.
	give := func(rights map[string]int) api.Tree {
		c := copyOf(s)
		for _, path := range paths {
			if rights[path] != 0 {
				id, _ := tree.Find(c, path)
				node(&c, id).Acl = acls(allow(5, rights[path]))
			}
		}
		return c
	}
	if !tree.Valid(s) {
		t.Fatal("not valid")
	}
	for _, e := range needs() {
		if _, reply := tree.Do(give(e.rights), by(5, e.x), now); reply.E != api.OK {
			t.Errorf("%v with all that is needed: %v", e.x, reply.E)
		}
		if _, reply := tree.Do(s, e.x, now); reply.E != api.OK {
			t.Errorf("%v by 0: %v", e.x, reply.E)
		}
		for _, path := range paths {
			for right := r; right <= rules; right *= 2 {
				rights := map[string]int{}
				for _, p := range paths {
					rights[p] = 15
				}
				rights[path] = 15 - right
				got, reply := tree.Do(give(rights), by(5, e.x), now)
				if isNeeded := e.rights[path]&right != 0; isNeeded != (reply.E == api.ErrDenied) {
					t.Errorf("%v without the right %d at %q: %v", e.x, right, path, reply.E)
				} else if isNeeded && !equal(got, give(rights)) {
					t.Errorf("%v without the right %d at %q: %v", e.x, right, path, got)
				}
			}
		}
	}
}

// P9.7 (I3): whoever has no right at all changes nothing, but for closing what is open; 0 has no error ErrDenied, whatever the lists are.
func TestNobodyAndSuperuser(t *testing.T) {
	for _, e := range needs() {
		s := sample()
		for i := range s.Nodes {
			s.Nodes[i].Acl = acls(api.Ace{Who: api.Everyone, Rights: 15, Reach: api.Here})
		}
		for _, path := range []string{"", "a", "a/f", "a/g", "e", "l", "w", "k", "k/t", "z"} {
			x := e.x
			x.Path = path
			if _, reply := tree.Do(s, x, now); reply.E == api.ErrDenied {
				t.Errorf("%v by 0 is denied", x)
			}
			if got, _ := tree.Do(s, by(3, x), now); !equal(got, s) {
				t.Errorf("%v by 3: %v", x, got)
			}
		}
	}
}

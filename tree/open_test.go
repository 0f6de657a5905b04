package tree_test

import (
	"math/rand"
	"slices"
	"testing"

	"burgage/api"
	"burgage/tree"
)

// P9.1, P9.6 (I3): OpenFile and CloseFile on the sample.
func TestOpenAndClose(t *testing.T) {
	open := func(who int, path string) api.Op { return api.Op{Kind: api.OpenFile, Who: who, Path: path} }
	shut := func(who, n int) api.Op { return api.Op{Kind: api.CloseFile, Who: who, N: n, Path: "a/f", Id: 11} }
	opened := func(l ...api.Open) func(*api.Tree) {
		return func(t *api.Tree) { t.Opens = l }
	}
	a, b, c := api.Open{Node: 10, Who: 5}, api.Open{Node: 10, Who: 8}, api.Open{Node: 11, Who: 6}
	l := []doing{
		{open(9, "l"), api.OK, 4, opened(api.Open{Node: 4, Who: 9}, a, b, c)},
		{open(9, "a/g"), api.ErrDenied, 0, nil},
		{open(0, "a/g"), api.OK, 4, opened(api.Open{Node: 4, Who: 0}, a, b, c)},
		{open(8, "a/f"), api.OK, 3, opened(api.Open{Node: 3, Who: 8}, a, b, c)},
		{open(0, "w"), api.OK, 11, opened(a, b, api.Open{Node: 11, Who: 0}, c)},
		{open(8, "w"), api.OK, 11, opened(a, b, c, api.Open{Node: 11, Who: 8})},
		{open(6, "w"), api.ErrDenied, 0, nil},
		{open(8, "e"), api.ErrFile, 0, nil},
		{open(9, "a"), api.ErrFile, 0, nil},
		{open(8, "z"), api.ErrNone, 0, nil},
		{open(8, "w/z"), api.ErrDir, 0, nil},
		{open(8, "a/b/s"), api.ErrDenied, 0, nil},
		{open(8, "w/"), api.ErrPath, 0, nil},
		{shut(5, 10), api.OK, 0, opened(b, c)},
		{shut(8, 10), api.OK, 0, opened(a, c)},
		{shut(6, 11), api.OK, 0, opened(a, b)},
		{shut(0, 10), api.ErrNone, 0, nil},
		{shut(6, 10), api.ErrNone, 0, nil},
		{shut(5, 11), api.ErrNone, 0, nil},
		{shut(6, 3), api.ErrNone, 0, nil},
		{shut(6, 1), api.ErrNone, 0, nil},
		{shut(6, 0), api.ErrNone, 0, nil},
		{shut(6, 8), api.ErrNone, 0, nil},
	}
	for _, id := range odd {
		l = append(l, doing{shut(6, id), api.ErrNone, 0, nil}, doing{shut(5, id), api.ErrNone, 0, nil})
	}
	check(t, l)
}

// P9.6 (I3): a file with two entries, of which one goes, and then the last one, while it is open by one, and by two; it can be read until it is closed by all.
func TestFileThatIsOpen(t *testing.T) {
	read := func(who int) api.Op { return api.Op{Kind: api.Read, Who: who, Id: 3, N: 9} }
	for _, who := range [][]int{{4}, {4, 7}, {7, 4}, {0, 4, 7}} {
		s := done(t, tree.New(0), mkdir("d"), create("d/a"), put("d/a", 5), link("d/a", "b"), api.Op{Kind: api.SetAcl, Acl: acls(allow(api.Everyone, x))}, api.Op{Kind: api.SetAcl, Path: "b", Acl: acls(allow(api.Everyone, r))})
		for _, p := range who {
			s = done(t, s, by(p, api.Op{Kind: api.OpenFile, Path: "b"}))
		}
		s = done(t, s, unlink("d/a"))
		if n := at(s, "b"); n.Id != 3 || n.Links != 1 {
			t.Fatalf("with one entry: %v", n)
		}
		s = done(t, s, unlink("b"))
		for i, p := range who {
			n, err := tree.Get(s, 3)
			if err != api.OK || n.Links != 0 || !tree.Valid(s) || len(tree.Paths(s, 3)) > 0 || !slices.Equal(tree.Below(s, 3), []int{3}) || !slices.Equal(tree.Below(s, 1), []int{1, 2}) {
				t.Fatalf("%v: closed by %d: %v", who, i, s)
			}
			if _, reply := tree.Do(s, read(p), now); !equalReplies(reply, api.Reply{N: 5, Body: body(of(5, 0, 5))}) {
				t.Errorf("Read: %v", reply)
			}
			s = done(t, s, by(p, api.Op{Kind: api.CloseFile, N: 3}))
			refused(t, s, read(p), api.ErrNone)
		}
		if _, err := tree.Get(s, 3); err != api.ErrNone || len(s.Nodes) != 2 || !tree.Valid(s) {
			t.Errorf("%v: closed by all: %v", who, s)
		}
	}
}

// P9.6 (I3): what is renamed over a file that is open, and closing a file that still has entries.
func TestOpenFileIsReplaced(t *testing.T) {
	s := done(t, tree.New(0), create("a"), create("b"), put("b", 5), api.Op{Kind: api.OpenFile, Path: "b"}, rename("a", "b"))
	if n, err := tree.Get(s, 3); err != api.OK || n.Links != 0 || at(s, "b").Id != 2 {
		t.Errorf("%v", s)
	}
	s = done(t, s, api.Op{Kind: api.CloseFile, N: 3})
	if _, err := tree.Get(s, 3); err != api.ErrNone {
		t.Errorf("%v", s)
	}
	s = done(t, s, api.Op{Kind: api.OpenFile, Path: "b"}, api.Op{Kind: api.CloseFile, N: 2})
	if id, err := tree.Find(s, "b"); id != 2 || err != api.OK || len(s.Opens) > 0 {
		t.Errorf("%v", s)
	}
}

// P9.6 (I3): a file that is open is the same file, whatever is done to its entries; one that is not open goes with its last one.
func TestOpenAtRandom(t *testing.T) {
	g := rand.New(rand.NewSource(3))
	for range 40 {
		s := sample()
		for range 150 {
			x := someOp(g, s)
			x.Who = max(min(x.Who, 3), 0)
			next, reply := tree.Do(s, x, now)
			for _, n := range s.Nodes {
				isOpen := func(o api.Open) bool { return o.Node == n.Id }
				m, err := tree.Get(next, n.Id)
				if slices.ContainsFunc(next.Opens, isOpen) && err != api.OK {
					t.Fatalf("%v of %v: the open file %d went", x, s, n.Id)
				}
				if err == api.OK && m.Kind == api.File && len(tree.Paths(next, n.Id)) == 0 && !slices.ContainsFunc(next.Opens, isOpen) {
					t.Fatalf("%v of %v: the file %d stays", x, s, n.Id)
				}
			}
			if reply.E == api.OK && x.Kind == api.CloseFile && slices.Contains(next.Opens, api.Open{Node: x.N, Who: x.Who}) {
				t.Fatalf("%v of %v: it is still open", x, s)
			}
			s = next
		}
	}
}

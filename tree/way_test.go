package tree_test

import (
	"math"
	"math/rand"
	"slices"
	"strings"
	"testing"

	"burgage/api"
	"burgage/tree"
)

// P9.1 (I2): Get, with numbers that no node has.
func TestGet(t *testing.T) {
	s := sample()
	for id := -3; id < 40; id++ {
		n, err := tree.Get(s, id)
		i := slices.IndexFunc(s.Nodes, func(n api.Node) bool { return n.Id == id })
		switch {
		case i < 0 && (err != api.ErrNone || !equalNodes(n, api.Node{})):
			t.Errorf("Get of %d: %v, %v", id, n, err)
		case i >= 0 && (err != api.OK || !equalNodes(n, s.Nodes[i])):
			t.Errorf("Get of %d: %v, %v", id, n, err)
		}
	}
	for _, id := range odd {
		if n, err := tree.Get(s, id); err != api.ErrNone || !equalNodes(n, api.Node{}) {
			t.Errorf("Get of %d: %v, %v", id, n, err)
		}
	}
	s.Nodes[8].Id = math.MaxInt32
	if n, err := tree.Get(api.Tree{Nodes: s.Nodes[:9], Next: math.MaxInt}, math.MaxInt32); err != api.OK || n.Owner != 8 {
		t.Errorf("Get of a great number: %v, %v", n, err)
	}
}

// P9.1 (I2): Find, with the errors of the way of 0, who may enter everything.
func TestFind(t *testing.T) {
	for _, e := range []struct {
		path string
		id   int
		err  api.Errno
	}{
		{"", 1, api.OK}, {"a", 2, api.OK}, {"a/f", 3, api.OK}, {"a/g", 4, api.OK}, {"l", 4, api.OK}, {"a/b", 5, api.OK}, {"a/b/s", 6, api.OK}, {"e", 7, api.OK}, {"k", 9, api.OK}, {"w", 11, api.OK}, {"k/t", 12, api.OK}, {"k/u", 13, api.OK},
		{"z", 0, api.ErrNone}, {"A", 0, api.ErrNone}, {"aa", 0, api.ErrNone}, {"a/z", 0, api.ErrNone}, {"z/z", 0, api.ErrNone}, {"a/b/z/z", 0, api.ErrNone}, {"e/a", 0, api.ErrNone}, {"0", 0, api.ErrNone}, {"~", 0, api.ErrNone},
		{"l/z", 0, api.ErrDir}, {"a/f/f", 0, api.ErrDir}, {"a/b/s/z/z", 0, api.ErrDir}, {"w/w", 0, api.ErrDir},
	} {
		if id, err := tree.Find(sample(), e.path); id != e.id || err != e.err {
			t.Errorf("Find of %q: %d, %v", e.path, id, err)
		}
	}
	for _, path := range noPaths {
		if id, err := tree.Find(sample(), path); id != 0 || err != api.ErrPath {
			t.Errorf("Find of %q: %d, %v", path[:min(len(path), 30)], id, err)
		}
	}
	s := deep(t, 8)
	for n := 1; n <= 8; n++ {
		if id, err := tree.Find(s, chain(n)); id != n+1 || err != api.OK {
			t.Errorf("Find of %s: %d, %v", chain(n), id, err)
		}
	}
}

// P9.1, P9.7 (I3): the way ends at the first name at which it has to, whatever comes after it; only rights to enter count on it.
func TestWay(t *testing.T) {
	s := done(t, tree.New(0), mkdir("a"), mkdir("a/b"), mkdir("a/b/c"), create("a/b/c/f"), create("g"))
	enter := func(path string, who int) {
		s = done(t, s, api.Op{Kind: api.SetAcl, Path: path, Acl: acls(allow(who, x))})
	}
	see := func(who int, path string, err api.Errno) {
		t.Helper()
		if _, reply := tree.Do(s, by(who, stat(path)), now); reply.E != err {
			t.Errorf("the way of %d along %s: %v, not %v", who, path, reply.E, err)
		}
	}
	see(5, "", api.OK)
	see(5, "a", api.ErrDenied)
	see(5, "z", api.ErrDenied)
	see(5, "g/z", api.ErrDenied)
	see(5, "//", api.ErrPath)
	enter("", 5)
	see(5, "a", api.OK)
	see(5, "z", api.ErrNone)
	see(5, "g/z", api.ErrDir)
	see(5, "g/z/z", api.ErrDir)
	see(5, "a/b", api.ErrDenied)
	see(5, "a/z", api.ErrDenied)
	see(5, "a/b/z/z", api.ErrDenied)
	see(5, "z/z/z", api.ErrNone)
	enter("a/b", 5)
	see(5, "a/b/c", api.ErrDenied)
	enter("a", 5)
	see(5, "a/b/c", api.OK)
	see(5, "a/b/c/f", api.ErrDenied)
	see(5, "a/b/z/f", api.ErrNone)
	see(6, "a", api.ErrDenied)
	enter("a/b/c", 5)
	see(5, "a/b/c/f", api.OK)
	see(5, "a/b/c/f/z", api.ErrDir)
	// All other rights do not let in.
	s = done(t, s, api.Op{Kind: api.SetAcl, Path: "a", Acl: acls(allow(5, 15-x))})
	see(5, "a", api.OK)
	see(5, "a/b", api.ErrDenied)
	see(0, "a/b/c/f", api.OK)
}

// P9.1 (I3): texts that are not paths, for all kinds that have one.
func TestTextsThatAreNoPaths(t *testing.T) {
	for kind := 1; kind <= 16; kind++ {
		for _, path := range noPaths {
			for _, who := range []int{0, 8, 999} {
				x := api.Op{Kind: kind, Who: who, Path: path, To: "z", Id: 1, N: 1}
				if kind != api.CloseFile {
					refused(t, sample(), x, api.ErrPath)
				}
				if kind == api.Link || kind == api.Rename {
					x.Path, x.To = "l", path
					refused(t, sample(), x, api.ErrPath)
				}
			}
		}
	}
}

// P9.1 (I4): Below and Paths of the sample, and of numbers that no node has.
func TestBelowAndPaths(t *testing.T) {
	for _, e := range []struct {
		id    int
		below []int
		paths []string
	}{
		{1, []int{1, 2, 3, 4, 5, 6, 7, 9, 11, 12, 13}, []string{""}},
		{2, []int{2, 3, 4, 5, 6}, []string{"a"}},
		{3, []int{3}, []string{"a/f"}},
		{4, []int{4}, []string{"a/g", "l"}},
		{5, []int{5, 6}, []string{"a/b"}},
		{6, []int{6}, []string{"a/b/s"}},
		{7, []int{7}, []string{"e"}},
		{8, nil, nil},
		{9, []int{9, 12, 13}, []string{"k"}},
		{10, []int{10}, nil},
		{11, []int{11}, []string{"w"}},
		{13, []int{13}, []string{"k/u"}},
		{0, nil, nil}, {-1, nil, nil}, {14, nil, nil}, {30, nil, nil}, {math.MinInt, nil, nil}, {math.MaxInt, nil, nil},
	} {
		if got := tree.Below(sample(), e.id); !slices.Equal(got, e.below) {
			t.Errorf("Below of %d: %v", e.id, got)
		}
		if got := tree.Paths(sample(), e.id); !slices.Equal(got, e.paths) {
			t.Errorf("Paths of %d: %v", e.id, got)
		}
	}
}

// P9.1 (I4): paths are in the order of their bytes, where that of names is another one; numbers are in theirs, where the order of names is another one, and come once for files with several entries.
func TestOrderOfPaths(t *testing.T) {
	s := done(t, tree.New(0), create("f"), mkdir("a"), mkdir("a-"), mkdir("a."), mkdir("ab"), link("f", "a/f"), link("f", "a-/f"), link("f", "a./f"), link("f", "ab/f"), link("f", "a/-"), link("f", "a/a"), link("f", "0"), link("f", "z"))
	want := []string{"0", "a-/f", "a./f", "a/-", "a/a", "a/f", "ab/f", "f", "z"}
	if got := tree.Paths(s, 2); !slices.Equal(got, want) {
		t.Errorf("Paths: %v", got)
	}
	if got := tree.Below(s, 1); !slices.Equal(got, []int{1, 2, 3, 4, 5, 6}) {
		t.Errorf("Below: %v", got)
	}
	s = done(t, tree.New(0), mkdir("z"), mkdir("y"), create("b"), rename("y", "z/y"), rename("b", "z/a"), link("z/a", "z/y/a"))
	if got := tree.Below(s, 2); !slices.Equal(got, []int{2, 3, 4}) {
		t.Errorf("Below: %v", got)
	}
}

// P9.1, P9.5 (I2, I4): each node is found at its paths, and at no others.
func TestPathsAtRandom(t *testing.T) {
	g := rand.New(rand.NewSource(4))
	for range 30 {
		s := pick(g, []api.Tree{tree.New(0), sample()})
		for range 80 {
			s, _ = tree.Do(s, someOp(g, s), now)
		}
		all := modelOf(s).top.pairs()
		count := 0
		for _, n := range s.Nodes {
			paths := tree.Paths(s, n.Id)
			if !slices.IsSorted(paths) {
				t.Fatalf("Paths of %d in %v: %q", n.Id, s, paths)
			}
			for _, p := range paths {
				if all[p] == nil || all[p].Id != n.Id {
					t.Fatalf("Paths of %d in %v: %q", n.Id, s, paths)
				}
				if id, err := tree.Find(s, p); id != n.Id || err != api.OK {
					t.Fatalf("Find of %q in %v: %d, %v", p, s, id, err)
				}
			}
			count += len(paths)
			var below []int
			for _, m := range s.Nodes {
				if m.Id == n.Id || slices.ContainsFunc(tree.Paths(s, m.Id), func(p string) bool {
					return slices.ContainsFunc(paths, func(q string) bool { return q == "" || strings.HasPrefix(p, q+"/") })
				}) {
					below = append(below, m.Id)
				}
			}
			if got := tree.Below(s, n.Id); !slices.Equal(got, below) {
				t.Fatalf("Below of %d in %v: %v, not %v", n.Id, s, got, below)
			}
		}
		if count != len(all) {
			t.Fatalf("%v has %d paths, not %d", s, count, len(all))
		}
	}
}

// P9.5 (I3): what was made is found until it is removed; what is renamed is found at the new path, with all that is below it.
func TestNames(t *testing.T) {
	g := rand.New(rand.NewSource(5))
	for range 40 {
		s := sample()
		for range 100 {
			o := someOp(g, s)
			before := modelOf(s).top.pairs()
			next, reply := tree.Do(s, o, now)
			if reply.E == api.OK {
				look(t, s, next, o, reply, before)
			}
			s = next
		}
	}
}

// look looks at the paths after an operation without an error.
func look(t *testing.T, s, next api.Tree, o api.Op, reply api.Reply, before map[string]*thing) {
	t.Helper()
	for p, a := range before {
		isBelow := p == o.Path || strings.HasPrefix(p, o.Path+"/")
		id, err := tree.Find(next, p)
		switch {
		case o.Kind == api.Rename && isBelow:
			twoEntries := before[o.To] != nil && before[o.To].Id == before[o.Path].Id
			there, _ := tree.Find(next, o.To+strings.TrimPrefix(p, o.Path))
			if there != a.Id || err == api.OK && !twoEntries && p == o.Path {
				t.Fatalf("%v of %v: %s is not at its new path", o, s, p)
			}
		case (o.Kind == api.Unlink || o.Kind == api.Rmdir) && p == o.Path:
			if err != api.ErrNone {
				t.Fatalf("%v of %v: it is still there", o, s)
			}
		case o.Kind == api.Rename && p == o.To:
		case id != a.Id || err != api.OK:
			t.Fatalf("%v of %v: %s is not there any more", o, s, p)
		}
	}
	made := o.Path
	if o.Kind == api.Link {
		made = o.To
	}
	if o.Kind == api.Link || o.Kind == api.Mkdir || o.Kind == api.Create {
		if id, err := tree.Find(next, made); id != reply.N || err != api.OK {
			t.Fatalf("%v of %v: it is not there", o, s)
		}
	}
}

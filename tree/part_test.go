package tree_test

import (
	"math"
	"math/rand"
	"slices"
	"strings"
	"testing"

	"burgage/api"
	"burgage/tree"
)

// P9.1 (I5): Sub of directories of the sample: numbers in preorder, Ver as it was, no open files.
func TestSub(t *testing.T) {
	s := sample()
	node(&s, 3).Links = 2
	with(&s, 5, "f", 3)
	with(&s, 2, "0", 7)
	lacking(&s, 1, "e")
	lacking(&s, 1, "l")
	node(&s, 4).Links = 1
	// Now a has the entries 0 (empty), b (with f, s), f (as b/f) and g.
	renumbered := func(id, from int, l ...api.Entry) api.Node {
		n := *node(&s, from)
		n.Id, n.List = id, l
		return n
	}
	want := api.Tree{Next: 7, Nodes: []api.Node{
		renumbered(1, 2, api.Entry{Name: "0", Id: 2}, api.Entry{Name: "b", Id: 3}, api.Entry{Name: "f", Id: 4}, api.Entry{Name: "g", Id: 6}),
		renumbered(2, 7),
		renumbered(3, 5, api.Entry{Name: "f", Id: 4}, api.Entry{Name: "s", Id: 5}),
		renumbered(4, 3),
		renumbered(5, 6),
		renumbered(6, 4),
	}}
	if got, err := tree.Sub(s, "a"); err != api.OK || !equal(got, want) || !tree.Valid(got) {
		t.Errorf("Sub: %v, %v, not %v", got, err, want)
	}
	if got, err := tree.Sub(s, "a/0"); err != api.OK || !equal(got, api.Tree{Nodes: []api.Node{renumbered(1, 7)}, Next: 2}) {
		t.Errorf("Sub of an empty one: %v, %v", got, err)
	}
	all, err := tree.Sub(s, "")
	if err != api.OK || len(all.Nodes) != 11 || all.Next != 12 || len(all.Opens) > 0 || !tree.Same(all, s) || !tree.Valid(all) {
		t.Errorf("Sub of all: %v, %v", all, err)
	}
}

// P9.1 (I5): what Sub refuses: a file below that has an entry elsewhere, in the directory above or beside.
func TestSubRefuses(t *testing.T) {
	s := done(t, sample(), link("k/t", "k/u/t"), link("a/b/s", "e/s"))
	for _, e := range []struct {
		path string
		err  api.Errno
	}{
		{"", api.OK}, {"k", api.OK}, {"a", api.ErrInside}, {"a/b", api.ErrInside}, {"e", api.ErrInside}, {"k/u", api.ErrInside},
		{"l", api.ErrDir}, {"a/g", api.ErrDir}, {"a/f", api.ErrDir}, {"z", api.ErrNone}, {"a/z", api.ErrNone}, {"w/z", api.ErrDir}, {"a/b/s/z/z", api.ErrDir},
	} {
		got, err := tree.Sub(s, e.path)
		if err != e.err || err != api.OK && !isEmpty(got) {
			t.Errorf("Sub of %q: %v, %v", e.path, got, err)
		}
	}
	for _, path := range noPaths {
		if got, err := tree.Sub(s, path); err != api.ErrPath || !isEmpty(got) {
			t.Errorf("Sub of %q: %v, %v", path[:min(len(path), 30)], got, err)
		}
	}
}

// P9.1, P9.8 (I6): Without files, with one entry or more, open or not, and without directories.
func TestWithout(t *testing.T) {
	// No Ver is set, as no operation does it.
	entryGone := func(t *api.Tree, dir int, name string) {
		ver := node(t, dir).Ver
		lacking(t, dir, name)
		node(t, dir).Ver = ver
	}
	for _, e := range []struct {
		path   string
		change func(*api.Tree)
	}{
		{"a/f", func(t *api.Tree) { entryGone(t, 2, "f"); drop(t, 3) }},
		{"l", func(t *api.Tree) { entryGone(t, 1, "l"); node(t, 4).Links = 1 }},
		{"a/g", func(t *api.Tree) { entryGone(t, 2, "g"); node(t, 4).Links = 1 }},
		{"w", func(t *api.Tree) { entryGone(t, 1, "w"); node(t, 11).Links = 0 }},
		{"e", func(t *api.Tree) { entryGone(t, 1, "e"); drop(t, 7) }},
		{"a/b", func(t *api.Tree) { entryGone(t, 2, "b"); drop(t, 5); drop(t, 6) }},
		{"a", func(t *api.Tree) {
			entryGone(t, 1, "a")
			for _, id := range []int{2, 3, 5, 6} {
				drop(t, id)
			}
			node(t, 4).Links = 1
		}},
		{"k", func(t *api.Tree) { entryGone(t, 1, "k"); drop(t, 9); drop(t, 12); drop(t, 13) }},
	} {
		want := sample()
		e.change(&want)
		if got, err := tree.Without(sample(), e.path); err != api.OK || !equal(got, want) || !tree.Valid(got) {
			t.Errorf("Without %s: %v, %v, not %v", e.path, got, err, want)
		}
	}
	// Files that are open stay, also those below, with all their entries below gone.
	s := done(t, sample(), link("k/t", "k/u/t"), link("k/t", "k/s"), api.Op{Kind: api.OpenFile, Path: "k/t"}, rename("w", "k/w"))
	got, err := tree.Without(s, "k")
	if err != api.OK || !tree.Valid(got) || !slices.Equal(got.Opens, s.Opens) || got.Next != s.Next {
		t.Fatalf("Without: %v, %v", got, err)
	}
	for _, id := range []int{11, 12} {
		if n, err := tree.Get(got, id); err != api.OK || n.Links != 0 {
			t.Errorf("the file %d: %v, %v", id, n, err)
		}
	}
}

// P9.1 (I6): what Without refuses.
func TestWithoutRefuses(t *testing.T) {
	for _, e := range []struct {
		path string
		err  api.Errno
	}{{"", api.ErrPath}, {"z", api.ErrNone}, {"a/z", api.ErrNone}, {"z/z", api.ErrNone}, {"l/z", api.ErrDir}, {"l/z/z", api.ErrDir}, {"a/b/s/z", api.ErrDir}} {
		if got, err := tree.Without(sample(), e.path); err != e.err || !isEmpty(got) {
			t.Errorf("Without %q: %v, %v", e.path, got, err)
		}
	}
	for _, path := range noPaths {
		if got, err := tree.Without(sample(), path); err != api.ErrPath || !isEmpty(got) {
			t.Errorf("Without %q: %v, %v", path[:min(len(path), 30)], got, err)
		}
	}
}

// P9.1, P9.8 (I7): Graft of the sample into itself: numbers from Next on, in preorder; Opens, and files without entries, are left out.
func TestGraft(t *testing.T) {
	s := sample()
	got, err := tree.Graft(s, "a/b/z", s)
	if err != api.OK || !tree.Valid(got) {
		t.Fatalf("Graft: %v, %v", got, err)
	}
	want := sample()
	n := node(&want, 5)
	n.List = append(n.List, api.Entry{Name: "z", Id: 30})
	numbers := map[int]int{1: 30, 2: 31, 5: 32, 6: 33, 3: 34, 4: 35, 7: 36, 9: 37, 12: 38, 13: 39, 11: 40}
	for id := 30; id <= 40; id++ {
		for _, m := range sample().Nodes {
			if numbers[m.Id] != id {
				continue
			}
			m.Id = id
			for i, e := range m.List {
				m.List[i].Id = numbers[e.Id]
			}
			want.Nodes = append(want.Nodes, m)
		}
	}
	want.Next = 41
	if !equal(got, want) {
		t.Errorf("Graft: %v, not %v", got, want)
	}
	if !slices.Equal(got.Opens, s.Opens) {
		t.Errorf("open: %v", got.Opens)
	}
}

// P9.1 (I7): what Graft refuses, and in which order.
func TestGraftRefuses(t *testing.T) {
	bad := sample()
	bad.Next = 0
	for _, e := range []struct {
		path string
		s    api.Tree
		err  api.Errno
	}{
		{"", bad, api.ErrPath}, {"//", bad, api.ErrPath}, {"z/z", bad, api.ErrNone}, {"a/z/z", bad, api.ErrNone}, {"l/z", bad, api.ErrDir}, {"l/z/z", bad, api.ErrDir}, {"a", bad, api.ErrExists}, {"l", bad, api.ErrExists}, {"a/b/s", bad, api.ErrExists},
		{"z", bad, api.ErrTree}, {"z", api.Tree{}, api.ErrTree}, {"z", tooDeep(false), api.ErrTree}, {"z", wide(257), api.ErrTree},
		{"a", wide(256), api.ErrExists}, {"z", wide(256), api.ErrBig}, {"z", deep(t, 8), api.ErrBig},
	} {
		if got, err := tree.Graft(sample(), e.path, e.s); err != e.err || !isEmpty(got) {
			t.Errorf("Graft to %q: %v, %v, not %v", e.path, got, err, e.err)
		}
	}
	for _, path := range noPaths {
		if got, err := tree.Graft(sample(), path, tree.New(0)); err != api.ErrPath || !isEmpty(got) {
			t.Errorf("Graft to %q: %v, %v", path[:min(len(path), 30)], got, err)
		}
	}
	for i, s := range broken() {
		if got, err := tree.Graft(sample(), "z", s); err != api.ErrTree || !isEmpty(got) {
			t.Errorf("Graft of the tree %d: %v, %v", i, got, err)
		}
	}
}

// P9.1, P9.2 (I7): up to 256 nodes and paths of 8 names, and one more.
func TestGraftLimits(t *testing.T) {
	for _, e := range []struct{ mine, theirs int }{{1, 254}, {1, 255}, {1, 256}, {100, 156}, {100, 157}, {255, 1}, {256, 1}, {250, 7}, {250, 6}} {
		got, err := tree.Graft(wide(e.mine), "z", wide(e.theirs))
		if e.mine+e.theirs <= 256 {
			if err != api.OK || len(got.Nodes) != e.mine+e.theirs || !tree.Valid(got) {
				t.Errorf("%v: %v", e, err)
			}
		} else if err != api.ErrBig || !isEmpty(got) {
			t.Errorf("%v: %v", e, err)
		}
	}
	// A file without entries takes a number from t, but none of s is taken over.
	s := done(t, wide(255), create("z"), api.Op{Kind: api.OpenFile, Path: "z"}, unlink("z"))
	if got, err := tree.Graft(tree.New(0), "z", s); err != api.OK || len(got.Nodes) != 256 || !tree.Valid(got) {
		t.Errorf("%d nodes, %v", len(got.Nodes), err)
	}
	if _, err := tree.Graft(s, "z", tree.New(0)); err != api.ErrBig {
		t.Errorf("%v", err)
	}
	for n := range 8 {
		for below := range 9 {
			path := strings.TrimPrefix(chain(n)+"/z", "/")
			got, err := tree.Graft(deep(t, n), path, deep(t, below))
			file := below
			if below < 8 {
				file++
			}
			withFile, fileErr := tree.Graft(deep(t, n), path, done(t, deep(t, file-1), create(chain(file))))
			if n+1+below <= 8 && (err != api.OK || !tree.Valid(got)) || n+1+below > 8 && (err != api.ErrBig || !isEmpty(got)) {
				t.Errorf("%d below %d: %v", below, n, err)
			}
			if n+1+file <= 8 && (fileErr != api.OK || !tree.Valid(withFile)) || n+1+file > 8 && fileErr != api.ErrBig {
				t.Errorf("a file %d below %d: %v", file, n, fileErr)
			}
		}
	}
	// Numbers go on from Next, however great it is.
	s = sample()
	s.Next = 1 << 61
	if got, err := tree.Graft(s, "z", tree.New(7)); err != api.OK || !tree.Valid(got) || got.Next != 1<<61+1 || at(got, "z").Id != 1<<61 {
		t.Errorf("%v, %v", got, err)
	}
	s.Next = math.MaxInt
	tree.Graft(s, "z", sample())
	tree.Do(s, create("z"), now)
}

// P9.1, P9.2 (I5 to I7): trees after ways of operations do what the model does.
func TestPartsAtRandom(t *testing.T) {
	g := rand.New(rand.NewSource(6))
	counts := map[string]int{}
	count := func(what string, err api.Errno) {
		if err == api.OK {
			counts[what]++
		}
	}
	for range 60 {
		s, other := pick(g, []api.Tree{tree.New(0), sample(), deep(t, 5)}), sample()
		for range 60 {
			s, _ = tree.Do(s, someOp(g, s), now)
			other, _ = tree.Do(other, someOp(g, other), now)
			path := somePath(g, s)
			got, err := tree.Sub(s, path)
			if want, wantErr := sub(s, path); !equal(got, want) || err != wantErr || err == api.OK && !valid(got) {
				t.Fatalf("Sub of %v, %q: %v, %v, not %v, %v", s, path, got, err, want, wantErr)
			}
			count("Sub", err)
			got, err = tree.Without(s, path)
			if want, wantErr := without(s, path); !equal(got, want) || err != wantErr || err == api.OK && !valid(got) {
				t.Fatalf("Without of %v, %q: %v, %v, not %v, %v", s, path, got, err, want, wantErr)
			}
			count("Without", err)
			got, err = tree.Graft(s, path, other)
			if want, wantErr := graft(s, path, other); !equal(got, want) || err != wantErr || err == api.OK && !valid(got) {
				t.Fatalf("Graft of %v, %q, %v: %v, %v, not %v, %v", s, path, other, got, err, want, wantErr)
			}
			count("Graft", err)
		}
	}
	for _, what := range []string{"Sub", "Without", "Graft"} {
		if counts[what] < 100 {
			t.Errorf("%s was done %d times", what, counts[what])
		}
	}
}

// P9.8 (I5 to I7): what is cut out and put in again is the same, and the rest stays as it is.
func TestCutOutAndPutIn(t *testing.T) {
	g := rand.New(rand.NewSource(7))
	there := 0
	for range 60 {
		s := pick(g, []api.Tree{sample(), deep(t, 5)})
		for range 60 {
			s, _ = tree.Do(s, someOp(g, s), now)
			path := somePathTo(g, s, api.Dir)
			part, err := tree.Sub(s, path)
			if path == "" || err != api.OK {
				continue
			}
			there++
			rest, err := tree.Without(s, path)
			if err != api.OK {
				t.Fatalf("Without of %v, %q: %v", s, path, err)
			}
			for _, n := range rest.Nodes {
				old, err := tree.Get(s, n.Id)
				n.List, old.List = nil, nil
				if err != api.OK || n.Kind == api.Dir && !equalNodes(n, old) || n.Ver != old.Ver || !slices.Equal(n.Body, old.Body) {
					t.Fatalf("Without of %v, %q: %v", s, path, rest)
				}
			}
			again, err := tree.Graft(rest, path, part)
			if err == api.ErrBig && len(rest.Nodes)+len(part.Nodes) > 256 {
				continue
			}
			if err != api.OK || !tree.Same(s, again) || !tree.Valid(again) || !slices.Equal(again.Opens, s.Opens) {
				t.Fatalf("Graft of %v, %q, %v: %v, %v", rest, path, part, again, err)
			}
			if back, err := tree.Sub(again, path); err != api.OK || !equal(back, part) {
				t.Fatalf("Sub of %v, %q: %v, %v, not %v", again, path, back, err, part)
			}
			if back, err := tree.Without(again, path); err != api.OK || back.Next != again.Next || !slices.EqualFunc(back.Nodes, rest.Nodes, equalNodes) {
				t.Fatalf("Without of %v, %q: %v, %v, not %v", again, path, back, err, rest)
			}
		}
	}
	if there < 500 {
		t.Errorf("it was done %d times", there)
	}
}

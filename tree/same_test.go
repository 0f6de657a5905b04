package tree_test

import (
	"maps"
	"math/rand"
	"slices"
	"testing"

	"burgage/api"
	"burgage/tree"
)

// renumbered returns a tree with other numbers, Ver and Next, and with the new number of each node.
func renumbered(g *rand.Rand, s api.Tree) (api.Tree, map[int]int) {
	s = copyOf(s)
	free := g.Perm(3 * len(s.Nodes))[:len(s.Nodes)]
	numbers := map[int]int{}
	for i := range s.Nodes {
		n := &s.Nodes[i]
		numbers[n.Id] = free[i] + 2
		if n.Id == 1 {
			numbers[1] = 1
		}
	}
	for i := range s.Nodes {
		n := &s.Nodes[i]
		n.Id, n.Ver = numbers[n.Id], g.Intn(100)
		for j, e := range n.List {
			n.List[j].Id = numbers[e.Id]
		}
	}
	for i, o := range s.Opens {
		s.Opens[i].Node = numbers[o.Node]
	}
	slices.SortFunc(s.Nodes, func(a, b api.Node) int { return a.Id - b.Id })
	slices.SortFunc(s.Opens, func(a, b api.Open) int { return (a.Node-b.Node)*1000 + a.Who - b.Who })
	s.Next = 1000 + g.Intn(100)
	return s, numbers
}

// differences are changes that make another tree of the sample.
func differences() map[string]func(*api.Tree) {
	return map[string]func(*api.Tree){
		"owner of the root":         func(t *api.Tree) { t.Nodes[0].Owner = 6 },
		"owner of a directory":      func(t *api.Tree) { node(t, 7).Owner = 6 },
		"owner of a file":           func(t *api.Tree) { node(t, 6).Owner = 6 },
		"list of the root":          func(t *api.Tree) { t.Nodes[0].Acl = t.Nodes[0].Acl[1:] },
		"order of a list":           func(t *api.Tree) { l := node(t, 9).Acl; l[0], l[1] = l[1], l[0] },
		"list of a file":            func(t *api.Tree) { node(t, 6).Acl = acls(allow(1, r)) },
		"what was given":            func(t *api.Tree) { node(t, 9).Acl[1].Given = true },
		"rights":                    func(t *api.Tree) { node(t, 3).Acl[1].Rights = r | w },
		"body":                      func(t *api.Tree) { node(t, 3).Body[0].N = 9 },
		"body of an empty file":     func(t *api.Tree) { node(t, 12).Body = body(hole(1)) },
		"another chunk":             func(t *api.Tree) { node(t, 3).Body[0].Id = 8 },
		"hole or erased":            func(t *api.Tree) { node(t, 6).Body[1].Id = api.Hole },
		"kind":                      func(t *api.Tree) { node(t, 7).Kind = api.File },
		"kind of what was a file":   func(t *api.Tree) { node(t, 12).Kind = api.Dir },
		"a name":                    func(t *api.Tree) { node(t, 9).List[0].Name = "s" },
		"a name of a directory":     func(t *api.Tree) { t.Nodes[0].List[0].Name = "A" },
		"one entry less":            func(t *api.Tree) { lacking(t, 1, "e"); drop(t, 7) },
		"the last entry less":       func(t *api.Tree) { lacking(t, 5, "s"); drop(t, 6) },
		"one link less":             func(t *api.Tree) { lacking(t, 1, "l"); node(t, 4).Links = 1 },
		"one entry more":            func(t *api.Tree) { with(t, 7, "z", 4); node(t, 4).Links = 3 },
		"one directory more":        func(t *api.Tree) { *t, _ = tree.Graft(*t, "e/z", tree.New(0)) },
		"two files in place of one": func(t *api.Tree) { split(t) },
		"entries changed":           func(t *api.Tree) { l := t.Nodes[1].List; l[1].Id, l[2].Id = l[2].Id, l[1].Id },
		"places of two directories": func(t *api.Tree) { l := t.Nodes[0].List; l[1].Id, l[2].Id = l[2].Id, l[1].Id },
	}
}

// split makes two equal files of a/g and l, which are one in the sample.
func split(t *api.Tree) {
	n := node(t, 4)
	n.Links = 1
	twin := *n
	twin.Id = 20
	t.Nodes = append(t.Nodes, twin)
	t.Nodes[0].List[3].Id = 20
}

// P9.1, P9.9 (I8): trees that are the same, with other numbers, versions and open files.
func TestSame(t *testing.T) {
	g := rand.New(rand.NewSource(8))
	same := func(what string, a, b api.Tree, want bool) {
		t.Helper()
		if !valid(a) || !valid(b) {
			t.Errorf("%s: not valid", what)
		}
		if tree.Same(a, b) != want || tree.Same(b, a) != want {
			t.Errorf("%s: not %v", what, want)
		}
	}
	for range 100 {
		other, _ := renumbered(g, sample())
		same("other numbers", sample(), other, true)
		for what, change := range differences() {
			s := sample()
			change(&s)
			same(what, s, sample(), false)
			same(what, s, other, false)
			again, _ := renumbered(g, s)
			same(what, s, again, true)
			same(what, again, other, false)
		}
	}
	closed := sample()
	drop(&closed, 10)
	closed.Opens = nil
	same("no open files", closed, sample(), true)
	same("new trees", tree.New(0), tree.New(0), true)
	same("new trees of two owners", tree.New(0), tree.New(1), false)
	same("a new tree", tree.New(5), sample(), false)
	empty := sample()
	empty.Nodes[0].Acl = acls()
	empty.Nodes[0].Body = body()
	none := sample()
	none.Nodes[0].Acl = nil
	same("nil and empty lists", empty, none, true)
}

// P9.9, P9.1 (I8): two paths lead to one file in the one exactly if they do in the other one.
func TestSameFiles(t *testing.T) {
	names := []string{"a", "b", "c", "d"}
	// Each way in which four names lead to files, which are all equal, by the least name of the same file.
	var ways [][]string
	for _, b := range names[:2] {
		for _, c := range names[:3] {
			for _, d := range names {
				if (c != "b" || b == "b") && (d != "b" || b == "b") && (d != "c" || c == "c") {
					ways = append(ways, []string{"a", b, c, d})
				}
			}
		}
	}
	if len(ways) != 15 {
		t.Fatalf("%d ways", len(ways))
	}
	make := func(way []string) api.Tree {
		s := tree.New(0)
		for i, n := range names {
			if way[i] == n {
				s = done(t, s, create(n))
			} else {
				s = done(t, s, link(way[i], n))
			}
		}
		return s
	}
	for _, p := range ways {
		for _, q := range ways {
			a, b := make(p), make(q)
			if want := slices.Equal(p, q); tree.Same(a, b) != want || same(a, b) != want {
				t.Errorf("%v and %v: not %v", p, q, want)
			}
		}
	}
}

// P9.9 (I8): operations keep trees the same, with the same replies but for numbers and versions.
func TestSameAfterOperations(t *testing.T) {
	g := rand.New(rand.NewSource(9))
	fine := 0
	for range 40 {
		a := pick(g, []api.Tree{tree.New(0), sample(), deep(t, 5)})
		b, numbers := renumbered(g, a)
		for range 80 {
			x := someOp(g, a)
			y := x
			if x.Kind == api.CloseFile {
				y.N = numbers[x.N]
			}
			if x.Kind == api.Read {
				y.Id = numbers[x.Id]
			}
			nextA, replyA := tree.Do(a, x, 5)
			nextB, replyB := tree.Do(b, y, 6)
			if replyA.E != replyB.E || !slices.Equal(replyA.Names, replyB.Names) || !slices.Equal(replyA.Body, replyB.Body) {
				t.Fatalf("%v of %v and %v: %v and %v", x, a, b, replyA, replyB)
			}
			if x.Kind == api.Create || x.Kind == api.Mkdir {
				numbers[replyA.N] = replyB.N
			}
			if !tree.Same(nextA, nextB) || !same(nextA, nextB) {
				t.Fatalf("%v of %v and %v: not the same", x, a, b)
			}
			if tree.Same(a, nextA) != same(a, nextA) || tree.Same(a, nextB) != same(a, nextB) {
				t.Fatalf("%v and %v, %v: Same is wrong", a, nextA, nextB)
			}
			if replyA.E == api.OK {
				fine++
			}
			a, b = nextA, nextB
		}
	}
	if fine < 300 {
		t.Errorf("%d operations had no error", fine)
	}
}

// P9.1 (I8): all chunks, each once, in increasing order, those of open files without entries as well.
func TestUsed(t *testing.T) {
	if got := tree.Used(sample()); !slices.Equal(got, []int{7, 8, 9}) {
		t.Errorf("Used: %v", got)
	}
	for _, s := range []api.Tree{tree.New(0), deep(t, 3), wide(20)} {
		if got := tree.Used(s); len(got) > 0 {
			t.Errorf("Used: %v", got)
		}
	}
	s := sample()
	node(&s, 12).Body = body(of(4095, 0, 1), hole(2), of(1, 5, 1), of(4095, 0, 1), gone(1), of(300, 0, 1))
	node(&s, 11).Body = body(of(8, 0, 1), of(2, 5, 1))
	if got := tree.Used(s); !slices.Equal(got, []int{1, 2, 7, 8, 9, 300, 4095}) {
		t.Errorf("Used: %v", got)
	}
	g := rand.New(rand.NewSource(10))
	for range 20 {
		s := sample()
		for range 50 {
			s, _ = tree.Do(s, someOp(g, s), now)
			chunks := map[int]bool{}
			for _, n := range s.Nodes {
				for _, p := range n.Body {
					if p.Id > 0 {
						chunks[p.Id] = true
					}
				}
			}
			if got := tree.Used(s); !slices.Equal(got, slices.Sorted(maps.Keys(chunks))) {
				t.Fatalf("Used of %v: %v", s, got)
			}
		}
	}
}

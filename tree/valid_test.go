package tree_test

import (
	"math"
	"math/rand"
	"slices"
	"strings"
	"testing"

	"burgage/acl"
	"burgage/api"
	"burgage/extent"
	"burgage/name"
	"burgage/tree"
)

// valid says as the chapter does which trees are valid.
func valid(t api.Tree) bool {
	if len(t.Nodes) > 256 || len(t.Opens) > 32 {
		return false
	}
	nodes, elements := map[int]api.Node{}, map[int]int{}
	for i, n := range t.Nodes {
		if n.Id < 1 || n.Id >= t.Next || i > 0 && t.Nodes[i-1].Id >= n.Id {
			return false
		}
		nodes[n.Id] = n
		for _, e := range n.List {
			elements[e.Id]++
		}
	}
	for _, n := range t.Nodes {
		if n.Owner < 0 || n.Owner > 999 || !acl.Valid(n.Acl) || n.Ver < 0 {
			return false
		}
		for i, e := range n.List {
			if _, is := nodes[e.Id]; !is || !name.Valid(e.Name) || i > 0 && strings.Compare(n.List[i-1].Name, e.Name) >= 0 {
				return false
			}
		}
		isDir := n.Kind == api.Dir && len(n.Body) == 0 && n.Links == 1
		isFile := n.Kind == api.File && len(n.List) == 0 && extent.Valid(n.Body) && n.Links == elements[n.Id]
		if !isDir && !isFile || isDir && n.Id != 1 && elements[n.Id] != 1 {
			return false
		}
	}
	if nodes[1].Kind != api.Dir || elements[1] != 0 {
		return false
	}
	return validOpens(t, nodes) && validReach(nodes)
}

func validOpens(t api.Tree, nodes map[int]api.Node) bool {
	open := map[int]bool{}
	for i, o := range t.Opens {
		if nodes[o.Node].Kind != api.File || o.Who < 0 || o.Who > 999 {
			return false
		}
		if i > 0 {
			if p := t.Opens[i-1]; p.Node > o.Node || p.Node == o.Node && p.Who >= o.Who {
				return false
			}
		}
		open[o.Node] = true
	}
	for _, n := range nodes {
		if n.Kind == api.File && n.Links == 0 && !open[n.Id] {
			return false
		}
	}
	return true
}

// validReach looks at what is reached by 0 names, by 1 name, and so on.
func validReach(nodes map[int]api.Node) bool {
	level, reached := map[int]bool{1: true}, map[int]bool{}
	for range 9 {
		next := map[int]bool{}
		for id := range level {
			reached[id] = true
			for _, e := range nodes[id].List {
				next[e.Id] = true
			}
		}
		level = next
	}
	for id, n := range nodes {
		if !reached[id] && !(n.Kind == api.File && n.Links == 0) {
			return false
		}
	}
	return len(level) == 0
}

// breaking are changes that make the sample a tree that is not valid.
func breaking() []func(*api.Tree) {
	l := []func(*api.Tree){
		// Numbers.
		func(t *api.Tree) { t.Nodes = nil },
		func(t *api.Tree) { t.Nodes = t.Nodes[1:] },
		func(t *api.Tree) { t.Nodes[0], t.Nodes[1] = t.Nodes[1], t.Nodes[0] },
		func(t *api.Tree) { t.Nodes[5], t.Nodes[6] = t.Nodes[6], t.Nodes[5] },
		func(t *api.Tree) { t.Nodes = append(t.Nodes, t.Nodes[11]) },
		func(t *api.Tree) { t.Nodes = slices.Insert(t.Nodes, 4, t.Nodes[3]) },
		func(t *api.Tree) { t.Nodes = slices.Insert(t.Nodes, 0, api.Node{Id: 0, Kind: api.File}) },
		func(t *api.Tree) {
			t.Nodes = slices.Insert(t.Nodes, 0, api.Node{Id: -1, Kind: api.File})
			t.Opens = slices.Insert(t.Opens, 0, api.Open{Node: -1})
		},
		func(t *api.Tree) {
			t.Nodes = slices.Insert(t.Nodes, 0, api.Node{Id: 0, Kind: api.File})
			t.Opens = slices.Insert(t.Opens, 0, api.Open{Node: 0})
		},
		func(t *api.Tree) { t.Next = 13 },
		func(t *api.Tree) { t.Next = 0 },
		func(t *api.Tree) { t.Next = math.MinInt },
		func(t *api.Tree) { drop(t, 3) },
		func(t *api.Tree) { drop(t, 7) },
		func(t *api.Tree) { drop(t, 10) },
		// Owners, lists and versions.
		func(t *api.Tree) { t.Nodes[0].Owner = -1 },
		func(t *api.Tree) { t.Nodes[3].Owner = 1000 },
		func(t *api.Tree) { t.Nodes[8].Owner = 1000 },
		func(t *api.Tree) { t.Nodes[2].Acl = acls(allow(8, 0)) },
		func(t *api.Tree) { t.Nodes[0].Acl = acls(given(allow(8, r)), allow(8, w)) },
		func(t *api.Tree) { t.Nodes[8].Acl = acls(allow(8, r), allow(8, w)) },
		func(t *api.Tree) { t.Nodes[3].Ver = -1 },
		func(t *api.Tree) { t.Nodes[0].Ver = math.MinInt },
		// Directories.
		func(t *api.Tree) { t.Nodes[0].Links = 0 },
		func(t *api.Tree) { t.Nodes[0].Links = 2 },
		func(t *api.Tree) { t.Nodes[1].Links = 2 },
		func(t *api.Tree) { t.Nodes[1].Links = 0 },
		func(t *api.Tree) { t.Nodes[1].Body = body(hole(1)) },
		func(t *api.Tree) { t.Nodes[0].Body = body(of(7, 0, 1)) },
		func(t *api.Tree) { t.Nodes[0].Kind = api.File },
		func(t *api.Tree) { t.Nodes[6].Kind = 3 },
		func(t *api.Tree) { t.Nodes[6].Kind = 0 },
		func(t *api.Tree) { t.Nodes[2].Kind = 0 },
		func(t *api.Tree) { t.Nodes[2].Kind = 3 },
		func(t *api.Tree) { t.Nodes[8].Kind = -1 },
		func(t *api.Tree) { l := t.Nodes[0].List; l[0], l[1] = l[1], l[0] },
		func(t *api.Tree) { l := t.Nodes[0].List; l[3], l[4] = l[4], l[3] },
		func(t *api.Tree) { t.Nodes[1].List[1].Name = "g" },
		func(t *api.Tree) { t.Nodes[1].List[0].Name = "" },
		func(t *api.Tree) { t.Nodes[1].List[0].Name = "." },
		func(t *api.Tree) { t.Nodes[1].List[0].Name = "a/b" },
		func(t *api.Tree) { t.Nodes[1].List[0].Name = "abcdefghijklmnopq" },
		func(t *api.Tree) { t.Nodes[1].List[1].Id = 8 },
		func(t *api.Tree) { t.Nodes[1].List[1].Id = 0 },
		func(t *api.Tree) { with(t, 7, "z", 40) },
		func(t *api.Tree) { with(t, 7, "z", -1) },
		// Links of files.
		func(t *api.Tree) { t.Nodes[2].Links = 0 },
		func(t *api.Tree) { t.Nodes[2].Links = 2 },
		func(t *api.Tree) { t.Nodes[3].Links = 1 },
		func(t *api.Tree) { t.Nodes[3].Links = 3 },
		func(t *api.Tree) { t.Nodes[8].Links = 1 },
		func(t *api.Tree) { t.Nodes[8].Links = -1 },
		func(t *api.Tree) { lacking(t, 1, "w") },
		func(t *api.Tree) { lacking(t, 1, "l") },
		func(t *api.Tree) { with(t, 7, "z", 10) },
		func(t *api.Tree) { with(t, 7, "z", 3) },
		// Files.
		func(t *api.Tree) { t.Nodes[2].List = entries(api.Entry{Name: "z", Id: 10}); t.Nodes[8].Links = 1 },
		func(t *api.Tree) { t.Nodes[2].Body = body(hole(0)) },
		func(t *api.Tree) { t.Nodes[2].Body = body(hole(1), hole(1)) },
		func(t *api.Tree) { t.Nodes[8].Body = body(of(4096, 0, 1)) },
		// Ways.
		func(t *api.Tree) { with(t, 7, "z", 1) },
		func(t *api.Tree) { with(t, 1, "z", 1) },
		func(t *api.Tree) { with(t, 7, "z", 13) },
		func(t *api.Tree) { with(t, 7, "z", 2) },
		func(t *api.Tree) { lacking(t, 1, "e") },
		func(t *api.Tree) { lacking(t, 9, "u"); with(t, 13, "u", 13) },
		func(t *api.Tree) { lacking(t, 1, "a"); with(t, 5, "z", 2) },
		func(t *api.Tree) { lacking(t, 1, "e"); lacking(t, 9, "u"); with(t, 7, "z", 13); with(t, 13, "z", 7) },
		// Open files.
		func(t *api.Tree) { t.Opens = nil },
		func(t *api.Tree) { t.Opens = t.Opens[2:] },
		func(t *api.Tree) { t.Opens[0].Node, t.Opens[1].Node = 4, 4 },
		func(t *api.Tree) { t.Opens[0], t.Opens[1] = t.Opens[1], t.Opens[0] },
		func(t *api.Tree) { t.Opens[1], t.Opens[2] = t.Opens[2], t.Opens[1] },
		func(t *api.Tree) { t.Opens[1].Who = 5 },
		func(t *api.Tree) { t.Opens[2].Node = 13 },
		func(t *api.Tree) { t.Opens[2].Node = 14 },
		func(t *api.Tree) { t.Opens[2].Node = 40 },
		func(t *api.Tree) { t.Opens[2].Who = 1000 },
		func(t *api.Tree) { t.Opens[0].Who = -1 },
		func(t *api.Tree) { t.Opens = slices.Insert(t.Opens, 0, api.Open{Node: 1}) },
		func(t *api.Tree) { t.Opens = slices.Insert(t.Opens, 0, api.Open{Node: 0}) },
	}
	for _, x := range odd {
		l = append(l, func(t *api.Tree) { t.Nodes[4].Owner = x }, func(t *api.Tree) { t.Opens[2].Who = x }, func(t *api.Tree) { t.Opens[2].Node = x }, func(t *api.Tree) { t.Nodes[1].List[1].Id = x },
			func(t *api.Tree) { t.Nodes[3].Kind = x }, func(t *api.Tree) { t.Nodes[3].Links = x }, func(t *api.Tree) { t.Nodes[1].Links = x })
	}
	return l
}

// broken are trees that are not valid.
func broken() []api.Tree {
	l := []api.Tree{{}, {Next: 1}, {Next: 2}}
	for links := range 3 {
		file := api.Tree{Nodes: []api.Node{{Id: 1, Kind: api.File, Links: links}}, Next: 2}
		l = append(l, file)
		file.Opens = []api.Open{{Node: 1}}
		l = append(l, file)
	}
	for _, change := range breaking() {
		t := sample()
		change(&t)
		l = append(l, t)
	}
	return append(l, wide(257), wide(300), tooManyOpens(), tooDeep(false), tooDeep(true))
}

// tooManyOpens returns a tree with 33 open files.
func tooManyOpens() api.Tree {
	t := wide(2)
	for who := range 33 {
		t.Opens = append(t.Opens, api.Open{Node: 2, Who: who})
	}
	return t
}

// tooDeep returns a tree with a path of 9 names, that of a file, or of a directory.
func tooDeep(toDir bool) api.Tree {
	t := tree.New(0)
	for id := 2; id <= 10; id++ {
		t.Nodes[id-2].List = entries(api.Entry{Name: "x", Id: id})
		t.Nodes = append(t.Nodes, api.Node{Id: id, Kind: api.Dir, Links: 1})
		t.Next++
	}
	if !toDir {
		t.Nodes[9].Kind = api.File
	}
	return t
}

// P9.1 (I1): the tree of the chapter's types, with each of its conditions, one after the other, broken.
func TestValid(t *testing.T) {
	if !tree.Valid(sample()) || !valid(sample()) {
		t.Fatal("the sample is not valid")
	}
	for i, s := range broken() {
		if tree.Valid(s) {
			t.Errorf("the tree %d is valid: %v", i, s)
		}
		if valid(s) {
			t.Errorf("the tree %d is no example", i)
		}
	}
}

// P9.1 (I1): what is just valid: the greatest and least numbers, 256 nodes, 8 names, 32 open files, one file with many entries and files that are open with or without entries.
func TestJustValid(t *testing.T) {
	for i, change := range []func(*api.Tree){
		func(t *api.Tree) {},
		func(t *api.Tree) { t.Next = 14 },
		func(t *api.Tree) { t.Next = math.MaxInt },
		func(t *api.Tree) { t.Nodes[0].Owner, t.Nodes[2].Owner = 0, 999 },
		func(t *api.Tree) { t.Nodes[0].Ver, t.Nodes[2].Ver = 0, math.MaxInt },
		func(t *api.Tree) { t.Nodes[0].Acl, t.Nodes[1].Acl = nil, acls() },
		func(t *api.Tree) { t.Opens[0].Who, t.Opens[1].Who = 0, 999 },
		func(t *api.Tree) { t.Opens = t.Opens[1:] },
		func(t *api.Tree) { t.Opens = t.Opens[:2] },
		func(t *api.Tree) { lacking(t, 1, "w"); node(t, 11).Links = 0 },
		func(t *api.Tree) { lacking(t, 1, "e"); with(t, 13, "e", 7) },
		func(t *api.Tree) { t.Nodes[1].List[0].Name = "abcdefghijklmnop" },
		func(t *api.Tree) {
			for i := range 26 * 26 {
				with(t, 7, string(rune('a'+i/26))+string(rune('a'+i%26)), 3)
			}
			node(t, 3).Links += 26 * 26
		},
	} {
		s := sample()
		change(&s)
		if !tree.Valid(s) || !valid(s) {
			t.Errorf("the tree %d is not valid: %v", i, s)
		}
	}
	many := tooManyOpens()
	many.Opens = many.Opens[1:]
	for i, s := range []api.Tree{wide(1), wide(2), wide(255), wide(256), deep(t, 7), deep(t, 8), many} {
		if !tree.Valid(s) || !valid(s) {
			t.Errorf("the great tree %d is not valid", i)
		}
	}
}

// shake changes something of a small tree, at random.
func shake(g *rand.Rand, t *api.Tree) {
	n := &t.Nodes[g.Intn(len(t.Nodes))]
	id := pick(g, []int{0, 1, 2, 3, 4, 5, 6, 7, 9, 10, 11, 12, 13, 14})
	switch g.Intn(14) {
	case 0:
		n.Id = id
	case 1:
		n.Kind = g.Intn(4)
	case 2:
		n.Links = g.Intn(4) - 1
	case 3, 4:
		if len(n.List) > 0 {
			n.List[g.Intn(len(n.List))].Id = id
		}
	case 5:
		if len(n.List) > 0 {
			n.List[g.Intn(len(n.List))].Name = pick(g, []string{"a", "b", "c", "g", "s", "z", ""})
		}
	case 6:
		if len(n.List) > 0 {
			n.List = slices.Delete(n.List, 0, 1)
		}
	case 7, 8:
		n.List = append(n.List, api.Entry{Name: pick(g, []string{"x", "y", "z"}), Id: id})
	case 9:
		drop(t, id)
	case 10:
		t.Opens = slices.Insert(t.Opens, g.Intn(len(t.Opens)+1), api.Open{Node: id, Who: g.Intn(9)})
	case 11:
		if len(t.Opens) > 0 {
			t.Opens = slices.Delete(t.Opens, 0, 1)
		}
	case 12:
		t.Next = id
	case 13:
		n.Body = pick(g, [][]api.Piece{nil, body(hole(2)), body(hole(2), hole(3))})
	}
}

// P9.1 (I1): trees that were changed at random, some of which are valid.
func TestValidAtRandom(t *testing.T) {
	g := rand.New(rand.NewSource(1))
	counts := map[bool]int{}
	for range 60000 {
		s := sample()
		for range 1 + g.Intn(3) {
			if len(s.Nodes) > 0 {
				shake(g, &s)
			}
		}
		want := valid(s)
		if tree.Valid(s) != want {
			t.Fatalf("Valid is %v for %v", !want, s)
		}
		counts[want]++
	}
	if counts[true] < 1000 || counts[false] < 1000 {
		t.Errorf("the trees were %v", counts)
	}
}

// P9.1 (I1): new trees, with an owner who is somebody, and with one who is not.
func TestNew(t *testing.T) {
	for _, owner := range append(slices.Clone(odd), 0, 1, 5, 500, 998, 999) {
		want := api.Tree{Nodes: []api.Node{{Id: 1, Kind: api.Dir, Owner: owner, Links: 1}}, Next: 2}
		if owner < 0 || owner > 999 {
			want.Nodes[0].Owner = 0
		}
		if got := tree.New(owner); !equal(got, want) || !tree.Valid(got) {
			t.Errorf("New of %d: %v", owner, got)
		}
	}
}

package tree_test

import (
	"math"
	"math/rand"
	"slices"
	"strings"
	"testing"

	"burgage/api"
	"burgage/tree"
)

// now is the version of the operations that are tried.
const now = 77

// odd are numbers that no person and no node has.
var odd = []int{-1, -2, 1000, 1001, math.MinInt, math.MinInt32, math.MaxInt32, math.MaxInt - 1, math.MaxInt}

// noPaths are texts that are not paths.
var noPaths = []string{"/", "/a", "a/", "a//g", "//", ".", "..", "a/.", "a/..", "a/../a", "a b", "a\x00", "ä", "a/abcdefghijklmnopq", "abcdefghijklmnopq", strings.Repeat("a/", 8) + "a", strings.Repeat("n/", 100000) + "n"}

func pick[T any](g *rand.Rand, l []T) T { return l[g.Intn(len(l))] }

func hole(n int) api.Piece            { return api.Piece{Id: api.Hole, N: n} }
func gone(n int) api.Piece            { return api.Piece{Id: api.Gone, N: n} }
func of(id, from, n int) api.Piece    { return api.Piece{Id: id, From: from, N: n} }
func body(l ...api.Piece) []api.Piece { return l }

func allow(who, rights int) api.Ace {
	return api.Ace{Who: who, Allow: true, Rights: rights, Reach: api.Here}
}

func both(who, rights int) api.Ace {
	return api.Ace{Who: who, Allow: true, Rights: rights, Reach: api.Both}
}

func given(e api.Ace) api.Ace {
	e.Given = true
	return e
}

func acls(l ...api.Ace) []api.Ace { return l }

func entries(l ...api.Entry) []api.Entry { return l }

const (
	r = api.MayRead
	w = api.MayWrite
	x = api.MayEnter
)

// sample is a tree in which 0 may do all. Its numbers have gaps.
//
//	(root)  1  8 may read, write and enter, all others read and enter
//	a       2  8 may read, write and enter, 6 may enter
//	a/b     5  only 0 may do anything, 8 is the owner
//	a/b/s   6
//	a/f     3  8 may read and write, 6 is the owner
//	a/g, l  4  all may read, 8 may write
//	e       7  empty; 8 may read, write and enter
//	k       9  8 may enter, and 6 may read
//	k/t    12  8 may write
//	k/u    13  empty; 8 may read, write and enter
//	w      11  8 may read and write; it is open by 6
//	       10  8 is the owner; it is open by 5 and 8
func sample() api.Tree {
	return api.Tree{
		Nodes: []api.Node{
			{Id: 1, Kind: api.Dir, Owner: 5, Acl: acls(both(8, w), both(api.Everyone, r|x)), List: entries(api.Entry{Name: "a", Id: 2}, api.Entry{Name: "e", Id: 7}, api.Entry{Name: "k", Id: 9}, api.Entry{Name: "l", Id: 4}, api.Entry{Name: "w", Id: 11}), Links: 1, Ver: 10},
			{Id: 2, Kind: api.Dir, Owner: 8, Acl: acls(both(8, r|w|x), allow(6, x)), List: entries(api.Entry{Name: "b", Id: 5}, api.Entry{Name: "f", Id: 3}, api.Entry{Name: "g", Id: 4}), Links: 1, Ver: 20},
			{Id: 3, Kind: api.File, Owner: 6, Acl: acls(allow(8, r), given(allow(8, w))), Body: body(of(7, 0, 10)), Links: 1, Ver: 30},
			{Id: 4, Kind: api.File, Owner: 5, Acl: acls(allow(8, w), allow(api.Everyone, r)), Body: body(hole(3), of(8, 0, 2)), Links: 2, Ver: 40},
			{Id: 5, Kind: api.Dir, Owner: 8, List: entries(api.Entry{Name: "s", Id: 6}), Links: 1, Ver: 50},
			{Id: 6, Kind: api.File, Owner: 5, Body: body(of(7, 5, 2), gone(1)), Links: 1, Ver: 60},
			{Id: 7, Kind: api.Dir, Owner: 8, Acl: acls(allow(8, r|w|x)), Links: 1, Ver: 70},
			{Id: 9, Kind: api.Dir, Owner: 7, Acl: acls(allow(8, x), allow(6, r)), List: entries(api.Entry{Name: "t", Id: 12}, api.Entry{Name: "u", Id: 13}), Links: 1, Ver: 90},
			{Id: 10, Kind: api.File, Owner: 8, Body: body(of(9, 0, 4)), Links: 0, Ver: 100},
			{Id: 11, Kind: api.File, Owner: 7, Acl: acls(allow(8, r|w)), Links: 1, Ver: 110},
			{Id: 12, Kind: api.File, Owner: 7, Acl: acls(allow(8, w)), Links: 1, Ver: 120},
			{Id: 13, Kind: api.Dir, Owner: 7, Acl: acls(allow(8, r|w|x)), Links: 1, Ver: 130},
		},
		Next:  30,
		Opens: []api.Open{{Node: 10, Who: 5}, {Node: 10, Who: 8}, {Node: 11, Who: 6}},
	}
}

// node returns a node of t itself, which must be there.
func node(t *api.Tree, id int) *api.Node {
	return &t.Nodes[slices.IndexFunc(t.Nodes, func(n api.Node) bool { return n.Id == id })]
}

// at returns the node at a path, which must be there.
func at(t api.Tree, path string) api.Node {
	id, err := tree.Find(t, path)
	if err != api.OK {
		panic(path + " is not there")
	}
	return *node(&t, id)
}

// with puts an entry into a directory of t.
func with(t *api.Tree, dir int, name string, id int) {
	n := node(t, dir)
	n.List = append(n.List, api.Entry{Name: name, Id: id})
	slices.SortFunc(n.List, func(a, b api.Entry) int { return strings.Compare(a.Name, b.Name) })
	n.Ver = now
}

// lacking takes an entry out of a directory of t.
func lacking(t *api.Tree, dir int, name string) {
	n := node(t, dir)
	n.List = slices.DeleteFunc(n.List, func(e api.Entry) bool { return e.Name == name })
	n.Ver = now
}

// drop takes a node out of t.
func drop(t *api.Tree, id int) {
	t.Nodes = slices.DeleteFunc(t.Nodes, func(n api.Node) bool { return n.Id == id })
}

func equalNodes(m, n api.Node) bool {
	return m.Id == n.Id && m.Kind == n.Kind && m.Owner == n.Owner && m.Links == n.Links && m.Ver == n.Ver && slices.Equal(m.Acl, n.Acl) && slices.Equal(m.List, n.List) && slices.Equal(m.Body, n.Body)
}

// equal reports whether two trees are equal with all numbers.
func equal(s, t api.Tree) bool {
	return s.Next == t.Next && slices.Equal(s.Opens, t.Opens) && slices.EqualFunc(s.Nodes, t.Nodes, equalNodes)
}

func equalReplies(a, b api.Reply) bool {
	return a.E == b.E && a.N == b.N && slices.Equal(a.Names, b.Names) && slices.Equal(a.Body, b.Body) && equalNodes(a.Node, b.Node)
}

func isEmpty(t api.Tree) bool { return equal(t, api.Tree{}) }

// copyOf returns a tree that shares no memory with t.
func copyOf(t api.Tree) api.Tree {
	c := api.Tree{Next: t.Next, Opens: slices.Clone(t.Opens)}
	for _, n := range t.Nodes {
		n.Acl, n.List, n.Body = slices.Clone(n.Acl), slices.Clone(n.List), slices.Clone(n.Body)
		c.Nodes = append(c.Nodes, n)
	}
	return c
}

// done does operations of 0 that have no error.
func done(t *testing.T, s api.Tree, l ...api.Op) api.Tree {
	t.Helper()
	for _, x := range l {
		var reply api.Reply
		if s, reply = tree.Do(s, x, now); reply.E != api.OK {
			t.Fatalf("%v: %v", x, reply.E)
		}
	}
	return s
}

func mkdir(path string) api.Op       { return api.Op{Kind: api.Mkdir, Path: path} }
func create(path string) api.Op      { return api.Op{Kind: api.Create, Path: path} }
func link(path, to string) api.Op    { return api.Op{Kind: api.Link, Path: path, To: to} }
func unlink(path string) api.Op      { return api.Op{Kind: api.Unlink, Path: path} }
func rmdir(path string) api.Op       { return api.Op{Kind: api.Rmdir, Path: path} }
func rename(path, to string) api.Op  { return api.Op{Kind: api.Rename, Path: path, To: to} }
func stat(path string) api.Op        { return api.Op{Kind: api.Stat, Path: path} }
func put(path string, id int) api.Op { return api.Op{Kind: api.Append, Path: path, Id: id, N: 5} }

// by gives an operation to somebody else.
func by(who int, x api.Op) api.Op {
	x.Who = who
	return x
}

// chain returns the path of n names, all of which are x.
func chain(n int) string { return strings.TrimSuffix(strings.Repeat("x/", n), "/") }

// deep returns a tree with directories at the chains of 1 to n names.
func deep(t *testing.T, n int) api.Tree {
	s := tree.New(0)
	for i := 1; i <= n; i++ {
		s = done(t, s, mkdir(chain(i)))
	}
	return s
}

// wide returns a tree with n nodes: a root with files, one of them at a, and all others at numbers.
func wide(n int) api.Tree {
	s := tree.New(0)
	for i := 1; i < n; i++ {
		name := "a"
		if i > 1 {
			name = "f" + string(rune('a'+i/20)) + string(rune('a'+i%20))
		}
		with(&s, 1, name, i+1)
		s.Nodes = append(s.Nodes, api.Node{Id: i + 1, Kind: api.File, Links: 1})
		s.Next++
	}
	return s
}

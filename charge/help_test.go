package charge_test

import (
	"maps"
	"math"
	"math/rand"
	"slices"
	"testing"

	"burgage/api"
	"burgage/tree"
)

const most = api.MaxBytes

// odd are numbers that no person has.
var odd = []int{-1, -2, 1000, 1001, math.MinInt, math.MinInt + 1, math.MinInt32, math.MaxInt32, 1 << 32, 1 << 62, math.MaxInt - 1, math.MaxInt}

func pick[T any](g *rand.Rand, l []T) T { return l[g.Intn(len(l))] }

func hole(n int) api.Piece            { return api.Piece{Id: api.Hole, N: n} }
func gone(n int) api.Piece            { return api.Piece{Id: api.Gone, N: n} }
func of(id, from, n int) api.Piece    { return api.Piece{Id: id, From: from, N: n} }
func body(l ...api.Piece) []api.Piece { return l }

func use(nodes, bytes int) api.Use { return api.Use{Nodes: nodes, Bytes: bytes} }

func account(owner, nodes, bytes int) api.Account {
	return api.Account{Owner: owner, Use: use(nodes, bytes)}
}

func accounts(l ...api.Account) []api.Account { return l }

func limit(owner, nodes, bytes int) api.Limit {
	return api.Limit{Owner: owner, Max: use(nodes, bytes)}
}

func limits(l ...api.Limit) []api.Limit { return l }

// sample is a tree in which 0 may do all, and others nearly nothing. Its numbers have gaps.
//
//	(root)  1  of 5
//	a       2  of 8
//	a/f     3  of 6; 10 bytes
//	a/g, l  4  of 5; 5 bytes, 3 of which are a hole
//	a/s     6  of 5; 3 bytes, 1 of which is erased
//	e       7  of 8; an empty directory
//	k       9  of 7
//	k/t    12  of 6; empty
//	w      11  of 7; 3 bytes; it is open by 6
//	       10  of 8; 4 bytes; it is open by 5 and 8
func sample() api.Tree {
	entries := func(l ...api.Entry) []api.Entry { return l }
	return api.Tree{
		Nodes: []api.Node{
			{Id: 1, Kind: api.Dir, Owner: 5, Acl: []api.Ace{{Who: 5, Allow: true, Rights: api.MayWrite | api.MayEnter, Reach: api.Here}}, List: entries(api.Entry{Name: "a", Id: 2}, api.Entry{Name: "e", Id: 7}, api.Entry{Name: "k", Id: 9}, api.Entry{Name: "l", Id: 4}, api.Entry{Name: "w", Id: 11}), Links: 1},
			{Id: 2, Kind: api.Dir, Owner: 8, List: entries(api.Entry{Name: "f", Id: 3}, api.Entry{Name: "g", Id: 4}, api.Entry{Name: "s", Id: 6}), Links: 1},
			{Id: 3, Kind: api.File, Owner: 6, Body: body(of(7, 0, 10)), Links: 1},
			{Id: 4, Kind: api.File, Owner: 5, Body: body(hole(3), of(8, 0, 2)), Links: 2},
			{Id: 6, Kind: api.File, Owner: 5, Body: body(of(7, 5, 2), gone(1)), Links: 1},
			{Id: 7, Kind: api.Dir, Owner: 8, Links: 1},
			{Id: 9, Kind: api.Dir, Owner: 7, List: entries(api.Entry{Name: "t", Id: 12}), Links: 1},
			{Id: 10, Kind: api.File, Owner: 8, Body: body(of(9, 2, 4)), Links: 0},
			{Id: 11, Kind: api.File, Owner: 7, Body: body(of(7, 8, 3)), Links: 1},
			{Id: 12, Kind: api.File, Owner: 6, Links: 1},
		},
		Next:  30,
		Opens: []api.Open{{Node: 10, Who: 5}, {Node: 10, Who: 8}, {Node: 11, Who: 6}},
	}
}

// files returns a tree with a file for each body, of the owners 0, 1, 2 and so on. Every third one has no entry, and is open.
func files(bodies ...[]api.Piece) api.Tree {
	t := tree.New(0)
	for i, b := range bodies {
		n := api.Node{Id: i + 2, Kind: api.File, Owner: i, Body: b}
		if i%3 == 2 {
			t.Opens = append(t.Opens, api.Open{Node: n.Id})
		} else {
			n.Links = 1
			t.Nodes[0].List = append(t.Nodes[0].List, api.Entry{Name: string(rune('a' + i)), Id: n.Id})
		}
		t.Nodes = append(t.Nodes, n)
	}
	t.Next = len(bodies) + 2
	return t
}

func snaps(l ...api.Tree) []api.Snap {
	var s []api.Snap
	for i, t := range l {
		s = append(s, api.Snap{Id: i + 1, Name: string(rune('a' + i)), Tree: t})
	}
	return s
}

// byOwner counts nodes and bytes one by one.
func byOwner(t api.Tree) map[int]api.Use {
	uses := map[int]api.Use{}
	for _, n := range t.Nodes {
		u := uses[n.Owner]
		u.Nodes++
		for _, p := range n.Body {
			for range p.N {
				u.Bytes++
			}
		}
		uses[n.Owner] = u
	}
	return uses
}

// listOf returns the accounts of owners with these uses.
func listOf(uses map[int]api.Use) []api.Account {
	var l []api.Account
	for _, owner := range slices.Sorted(maps.Keys(uses)) {
		if u := uses[owner]; u.Nodes != 0 || u.Bytes != 0 {
			l = append(l, account(owner, u.Nodes, u.Bytes))
		}
	}
	return l
}

// grown returns by how much the uses in after are greater than those in before.
func grown(before, after map[int]api.Use) []api.Account {
	uses := maps.Clone(after)
	for owner, u := range before {
		v := uses[owner]
		uses[owner] = use(v.Nodes-u.Nodes, v.Bytes-u.Bytes)
	}
	return listOf(uses)
}

// limitedUse returns the use for which the limit of owner is.
func limitedUse(uses map[int]api.Use, owner int) api.Use {
	if owner != api.Everyone {
		return uses[owner]
	}
	var all api.Use
	for _, u := range uses {
		all.Nodes += u.Nodes
		all.Bytes += u.Bytes
	}
	return all
}

// fits says as the chapter does whether everything is within limits.
func fits(uses map[int]api.Use, lim []api.Limit) bool {
	for _, x := range lim {
		if u := limitedUse(uses, x.Owner); u.Nodes > x.Max.Nodes || u.Bytes > x.Max.Bytes {
			return false
		}
	}
	return true
}

// blocks says as the chapter does whether one of the limits blocks what leads from before to after.
func blocks(before, after map[int]api.Use, lim []api.Limit) bool {
	for _, x := range lim {
		u, v := limitedUse(before, x.Owner), limitedUse(after, x.Owner)
		if v.Nodes > u.Nodes && v.Nodes > x.Max.Nodes || v.Bytes > u.Bytes && v.Bytes > x.Max.Bytes {
			return true
		}
	}
	return false
}

// negated returns what leads back.
func negated(l []api.Account) []api.Account {
	var d []api.Account
	for _, a := range l {
		d = append(d, account(a.Owner, -a.Use.Nodes, -a.Use.Bytes))
	}
	return d
}

// someAccounts returns accounts of a few owners, with negative numbers, and some that are zero in one number.
func someAccounts(g *rand.Rand) []api.Account {
	uses := map[int]api.Use{}
	for range g.Intn(6) {
		uses[pick(g, []int{0, 1, 2, 5, 998, 999})] = use(g.Intn(5)-2, g.Intn(5)-2)
	}
	return listOf(uses)
}

// someLimits returns limits about the uses that there are.
func someLimits(g *rand.Rand, uses map[int]api.Use) []api.Limit {
	var lim []api.Limit
	less := g.Intn(2)
	for _, owner := range []int{-1, 0, 4, 5, 6, 7, 8} {
		if g.Intn(2) == 0 {
			u := limitedUse(uses, owner)
			lim = append(lim, limit(owner, max(u.Nodes+g.Intn(3)-less, 0), max(u.Bytes+g.Intn(7)-3*less, 0)))
		}
	}
	return lim
}

// somePath returns a path that leads to a node of this kind, or the name z below it.
func somePath(g *rand.Rand, t api.Tree, kind int) string {
	for range 20 {
		n := pick(g, t.Nodes)
		if paths := tree.Paths(t, n.Id); n.Kind == kind && len(paths) > 0 {
			return pick(g, paths)
		}
	}
	return "z"
}

// newPath returns a path in a directory, where mostly nothing is.
func newPath(g *rand.Rand, t api.Tree) string {
	path := pick(g, []string{"a", "b", "c", "d", "e", "f", "g"})
	if dir := somePath(g, t, api.Dir); dir != "" {
		path = dir + "/" + path
	}
	return path
}

// someOp returns an operation, mostly one without an error.
func someOp(g *rand.Rand, t api.Tree) api.Op {
	x := api.Op{Kind: 1 + g.Intn(16), Path: somePath(g, t, 1+g.Intn(2)), To: newPath(g, t), Off: g.Intn(9), N: g.Intn(9), Id: 1 + g.Intn(8)}
	switch x.Kind {
	case api.Mkdir, api.Create:
		x.Path = newPath(g, t)
	case api.Write, api.Append, api.Cut, api.Link, api.Unlink, api.OpenFile:
		x.Path = somePath(g, t, api.File)
	case api.CloseFile:
		if len(t.Opens) > 0 {
			o := pick(g, t.Opens)
			x.N, x.Who = o.Node, o.Who
		}
	case api.Rename:
		if g.Intn(2) == 0 {
			x.Path, x.To = somePath(g, t, api.File), somePath(g, t, api.File)
		}
	case api.SetAcl:
		x.Acl = []api.Ace{{Who: api.Everyone, Allow: true, Rights: 1 + g.Intn(15), Reach: api.Both}}
	}
	if x.Kind != api.CloseFile && g.Intn(4) == 0 {
		x.Who = pick(g, []int{5, 6, 7, 8})
	}
	switch g.Intn(40) {
	case 0:
		x.Kind = pick(g, append([]int{0, 17}, odd...))
	case 1:
		x.Who = pick(g, odd)
	}
	return x
}

// done does operations of 0 that have no error.
func done(t *testing.T, s api.Tree, l ...api.Op) api.Tree {
	t.Helper()
	for _, x := range l {
		var reply api.Reply
		if s, reply = tree.Do(s, x, 1); reply.E != api.OK {
			t.Fatalf("%v: %v", x, reply.E)
		}
	}
	return s
}

// walks does long ways of operations, and shows each of them, with the trees before and after it, to see. It tells how many operations had no error.
func walks(t *testing.T, seed int64, see func(before, after api.Tree, x api.Op, e api.Errno)) {
	t.Helper()
	g := rand.New(rand.NewSource(seed))
	counts := map[bool]int{}
	for range 60 {
		s := pick(g, []api.Tree{tree.New(0), tree.New(5), sample(), files(body(of(7, 0, 10)), body(hole(2)), body(gone(3), of(8, 2, 2)))})
		for range 60 {
			x := someOp(g, s)
			after, reply := tree.Do(s, x, 1)
			see(s, after, x, reply.E)
			counts[reply.E == api.OK]++
			s = after
		}
	}
	if counts[true] < 1000 || counts[false] < 500 {
		t.Errorf("the operations were %v", counts)
	}
}

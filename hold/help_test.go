package hold_test

import (
	"maps"
	"math"
	"math/rand"
	"slices"
	"strings"
	"testing"

	"burgage/api"
	"burgage/hold"
	"burgage/tree"
)

// most is how many bytes a file has at most, and as many may be bound.
const most = api.MaxBytes

// odd are numbers far from all that there are.
var odd = []int{math.MinInt, math.MinInt + 1, math.MinInt32, -2, -1, math.MaxInt32, 1 << 32, 1 << 62, math.MaxInt - 1, math.MaxInt}

func pick[T any](g *rand.Rand, l []T) T { return l[g.Intn(len(l))] }

func hole(n int) api.Piece            { return api.Piece{Id: api.Hole, N: n} }
func gone(n int) api.Piece            { return api.Piece{Id: api.Gone, N: n} }
func of(id, from, n int) api.Piece    { return api.Piece{Id: id, From: from, N: n} }
func body(l ...api.Piece) []api.Piece { return l }

// binds returns what is bound, number and bytes pair by pair.
func binds(l ...int) []api.Bind {
	var b []api.Bind
	for i := 0; i < len(l); i += 2 {
		b = append(b, api.Bind{Node: l[i], N: l[i+1]})
	}
	return b
}

// order returns a hold, what it binds pair by pair.
func order(id, until int, l ...int) api.Hold {
	return api.Hold{Id: id, Until: until, Bind: binds(l...)}
}

func orders(l ...api.Hold) []api.Hold { return l }

// clashes returns the clashes of chunks and holds pair by pair.
func clashes(l ...int) []api.Clash {
	var c []api.Clash
	for i := 0; i < len(l); i += 2 {
		c = append(c, api.Clash{Chunk: l[i], Hold: l[i+1]})
	}
	return c
}

// sample is a tree in which 0 may do all, and 5 may write in the root. Its numbers have gaps.
//
//	(root)  1
//	a       2
//	a/f     3  10 bytes of the chunk 7
//	a/g, l  4  5 bytes, 3 of which are a hole
//	a/s     6  2 bytes of the chunk 7, and 1 that is erased
//	e       8  an empty directory
//	k       9
//	k/t    12  empty
//	k/u    13  2 bytes of the chunk 7, 3 of 8, a hole, 2 of 7, and 1 of 4095
//	w      11  3 bytes of the chunk 7; it is open by 6
//	       10  4 bytes of the chunk 9; it is open by 5 and 8
func sample() api.Tree {
	entries := func(l ...api.Entry) []api.Entry { return l }
	return api.Tree{
		Nodes: []api.Node{
			{Id: 1, Kind: api.Dir, Owner: 5, Acl: []api.Ace{{Who: 5, Allow: true, Rights: api.MayWrite | api.MayEnter, Reach: api.Here}}, List: entries(api.Entry{Name: "a", Id: 2}, api.Entry{Name: "e", Id: 8}, api.Entry{Name: "k", Id: 9}, api.Entry{Name: "l", Id: 4}, api.Entry{Name: "w", Id: 11}), Links: 1},
			{Id: 2, Kind: api.Dir, Owner: 8, List: entries(api.Entry{Name: "f", Id: 3}, api.Entry{Name: "g", Id: 4}, api.Entry{Name: "s", Id: 6}), Links: 1},
			{Id: 3, Kind: api.File, Owner: 6, Body: body(of(7, 0, 10)), Links: 1},
			{Id: 4, Kind: api.File, Owner: 5, Body: body(hole(3), of(8, 0, 2)), Links: 2},
			{Id: 6, Kind: api.File, Owner: 5, Body: body(of(7, 5, 2), gone(1)), Links: 1},
			{Id: 8, Kind: api.Dir, Owner: 8, Links: 1},
			{Id: 9, Kind: api.Dir, Owner: 7, List: entries(api.Entry{Name: "t", Id: 12}, api.Entry{Name: "u", Id: 13}), Links: 1},
			{Id: 10, Kind: api.File, Owner: 8, Body: body(of(9, 0, 4)), Links: 0},
			{Id: 11, Kind: api.File, Owner: 7, Body: body(of(7, 8, 3)), Links: 1},
			{Id: 12, Kind: api.File, Owner: 6, Links: 1},
			{Id: 13, Kind: api.File, Owner: 6, Body: body(of(7, 0, 2), of(8, 4, 3), hole(1), of(7, 20, 2), of(4095, most-1, 1)), Links: 1},
		},
		Next:  30,
		Opens: []api.Open{{Node: 10, Who: 5}, {Node: 10, Who: 8}, {Node: 11, Who: 6}},
	}
}

// files returns a tree with a file for each body, with the numbers from 2 on, at a, b, c and so on.
func files(bodies ...[]api.Piece) api.Tree {
	t := tree.New(0)
	for i, b := range bodies {
		t.Nodes = append(t.Nodes, api.Node{Id: i + 2, Kind: api.File, Body: b, Links: 1})
		t.Nodes[0].List = append(t.Nodes[0].List, api.Entry{Name: string(rune('a' + i)), Id: i + 2})
	}
	t.Next = len(bodies) + 2
	return t
}

// copyOf returns a tree that shares no memory with t.
func copyOf(t api.Tree) api.Tree {
	c := api.Tree{Next: t.Next, Opens: slices.Clone(t.Opens)}
	for _, n := range t.Nodes {
		n.Acl, n.List, n.Body = slices.Clone(n.Acl), slices.Clone(n.List), slices.Clone(n.Body)
		c.Nodes = append(c.Nodes, n)
	}
	return c
}

// done does operations that have no error.
func done(t *testing.T, s api.Tree, l ...api.Op) api.Tree {
	t.Helper()
	for _, x := range l {
		var reply api.Reply
		if s, reply = tree.Do(s, x, 1); reply.E != api.OK {
			t.Fatalf("%v: %v", x, reply.E)
		}
	}
	return s
}

// copyHolds returns holds that share no memory with l.
func copyHolds(l []api.Hold) []api.Hold {
	var c []api.Hold
	for _, h := range l {
		h.Bind = slices.Clone(h.Bind)
		c = append(c, h)
	}
	return c
}

// byteOf is a byte of a chunk; holes and erased bytes have no index.
type byteOf struct{ chunk, index int }

// fileBytes returns the bytes of the file with this number, one by one, and whether there is one, with entries.
func fileBytes(t api.Tree, id int) ([]byteOf, bool) {
	for _, n := range t.Nodes {
		if n.Id != id || n.Kind != api.File || n.Links == 0 {
			continue
		}
		var l []byteOf
		for _, p := range n.Body {
			for i := range p.N {
				if p.Id > 0 {
					l = append(l, byteOf{p.Id, p.From + i})
				} else {
					l = append(l, byteOf{p.Id, 0})
				}
			}
		}
		return l, true
	}
	return nil, false
}

// heldBytes returns the bytes that are held of one file.
func heldBytes(t api.Tree, b api.Bind) ([]byteOf, bool) {
	l, is := fileBytes(t, b.Node)
	return l[:min(len(l), b.N)], is
}

// begins reports whether a file has entries in t, and begins with these bytes.
func begins(t api.Tree, id int, first []byteOf) bool {
	l, is := fileBytes(t, id)
	return is && len(l) >= len(first) && slices.Equal(l[:len(first)], first)
}

// keeps says as the chapter does whether b keeps what a hold holds in a.
func keeps(a, b api.Tree, h api.Hold) bool {
	for _, x := range h.Bind {
		if l, is := heldBytes(a, x); is && !begins(b, x.Node, l) {
			return false
		}
	}
	return true
}

// kept says it of all holds that are live.
func kept(a, b api.Tree, l []api.Hold, now int) bool {
	_, is := firstLost(a, b, l, now)
	return !is
}

// firstLost returns the Id of the first live hold of which b does not keep what it holds in a.
func firstLost(a, b api.Tree, l []api.Hold, now int) (int, bool) {
	for _, h := range l {
		if h.Until > now && !keeps(a, b, h) {
			return h.Id, true
		}
	}
	return 0, false
}

// chunks finds the chunks that are held byte by byte.
func chunks(t api.Tree, l []api.Hold, now int) []api.Clash {
	var c []api.Clash
	for _, h := range l {
		for _, b := range h.Bind {
			bytes, _ := heldBytes(t, b)
			for _, x := range bytes {
				clash := api.Clash{Chunk: x.chunk, Hold: h.Id}
				if h.Until > now && x.chunk > 0 && !slices.Contains(c, clash) {
					c = append(c, clash)
				}
			}
		}
	}
	slices.SortFunc(c, func(a, b api.Clash) int { return (a.Chunk-b.Chunk)*1000 + a.Hold - b.Hold })
	return c
}

// bytesBound returns with which number of bytes a hold binds a node, and whether it does.
func bytesBound(h api.Hold, id int) (int, bool) {
	for _, b := range h.Bind {
		if b.Node == id {
			return b.N, true
		}
	}
	return 0, false
}

// follow says as the chapter does what Follow makes of a hold.
func follow(h api.Hold, pairs [][2]int) api.Hold {
	numbers := map[int]bool{}
	for _, b := range h.Bind {
		numbers[b.Node] = true
	}
	for _, p := range pairs {
		if _, is := bytesBound(h, p[0]); is && p[1] >= 1 {
			numbers[p[1]] = true
		}
	}
	out := api.Hold{Id: h.Id, Until: h.Until}
	for _, id := range slices.Sorted(maps.Keys(numbers)) {
		n, _ := bytesBound(h, id)
		for _, p := range pairs {
			if m, is := bytesBound(h, p[0]); is && p[1] == id {
				n = max(n, m)
			}
		}
		out.Bind = append(out.Bind, api.Bind{Node: id, N: n})
	}
	return out
}

// isAt reports whether a path is another one, or below it.
func isAt(path, top string) bool {
	return top == "" || path == top || strings.HasPrefix(path, top+"/")
}

// bound says as the chapter does what an order for a path binds.
func bound(t api.Tree, path string) []api.Bind {
	var l []api.Bind
	for _, n := range t.Nodes {
		is := slices.ContainsFunc(tree.Paths(t, n.Id), func(p string) bool { return isAt(p, path) })
		if n.Kind == api.File && is {
			bytes, _ := fileBytes(t, n.Id)
			l = append(l, api.Bind{Node: n.Id, N: len(bytes)})
		}
	}
	return l
}

func equalHold(a, b api.Hold) bool {
	return a.Id == b.Id && a.Until == b.Until && slices.Equal(a.Bind, b.Bind)
}

func equalHolds(a, b []api.Hold) bool { return slices.EqualFunc(a, b, equalHold) }

func isZero(h api.Hold) bool { return equalHold(h, api.Hold{}) }

// somePath returns a path that leads to a node of this kind, or the name z.
func somePath(g *rand.Rand, t api.Tree, kind int) string {
	for range 20 {
		n := pick(g, t.Nodes)
		if paths := tree.Paths(t, n.Id); n.Kind == kind && len(paths) > 0 {
			return pick(g, paths)
		}
	}
	return "z"
}

// newPath returns a path in a directory, where mostly nothing is.
func newPath(g *rand.Rand, t api.Tree) string {
	path := pick(g, []string{"b", "c", "d", "e", "f", "g", "h"})
	if dir := somePath(g, t, api.Dir); dir != "" {
		path = dir + "/" + path
	}
	return path
}

// someOp returns an operation, mostly one without an error.
func someOp(g *rand.Rand, t api.Tree) api.Op {
	x := api.Op{Kind: 1 + g.Intn(16), Path: somePath(g, t, 1+g.Intn(2)), To: newPath(g, t), Off: g.Intn(14), N: g.Intn(14), Id: 6 + g.Intn(3)}
	switch x.Kind {
	case api.Mkdir, api.Create:
		x.Path = newPath(g, t)
	case api.Write, api.Append, api.Cut, api.Link, api.Unlink, api.OpenFile:
		x.Path = somePath(g, t, api.File)
	case api.CloseFile:
		if len(t.Opens) > 0 {
			o := pick(g, t.Opens)
			x.N, x.Who = o.Node, o.Who
		}
	case api.Rename:
		if g.Intn(2) == 0 {
			x.Path, x.To = somePath(g, t, api.File), somePath(g, t, api.File)
		}
	case api.SetAcl:
		x.Acl = []api.Ace{{Who: api.Everyone, Allow: true, Rights: 1 + g.Intn(15), Reach: api.Both}}
	}
	if x.Kind != api.CloseFile && g.Intn(6) == 0 {
		x.Who = pick(g, []int{5, 6, 7, 8})
	}
	switch g.Intn(40) {
	case 0:
		x.Kind = pick(g, append([]int{0, 17}, odd...))
	case 1:
		x.Who = pick(g, odd)
	}
	return x
}

// someBind returns what a hold may bind: files of t, and also directories and numbers that no node has; no bytes, some, all, and more.
func someBind(g *rand.Rand, t api.Tree) []api.Bind {
	var l []api.Bind
	for id := 1; id < t.Next+3; id++ {
		if g.Intn(4) == 0 {
			l = append(l, api.Bind{Node: id, N: pick(g, []int{0, 1, 2, 3, 4, 5, 6, 9, 10, 11, most})})
		}
	}
	return l
}

// someHolds returns valid holds, whose dates are about now.
func someHolds(g *rand.Rand, t api.Tree, now int) []api.Hold {
	var l []api.Hold
	for id := range g.Intn(5) {
		h := api.Hold{Id: 3*id + 1 + g.Intn(3), Until: now + g.Intn(5) - 1, Bind: someBind(g, t)}
		if g.Intn(3) == 0 {
			h.Bind = bound(t, somePath(g, t, 1+g.Intn(2)))
		}
		l = append(l, h)
	}
	return l
}

// starts are trees from which ways of operations go on.
func starts() []api.Tree {
	return []api.Tree{sample(), tree.New(0), files(body(of(7, 0, 10)), body(hole(2)), body(gone(3), of(8, 2, 2)), nil)}
}

// walks does long ways of operations, and shows each of them, with the trees before and after it, to see. It tells how many operations had no error.
func walks(t *testing.T, seed int64, see func(g *rand.Rand, before, after api.Tree, x api.Op, e api.Errno)) {
	t.Helper()
	g := rand.New(rand.NewSource(seed))
	counts := map[bool]int{}
	for range 60 {
		s := pick(g, starts())
		for range 60 {
			x := someOp(g, s)
			after, reply := tree.Do(s, x, 1)
			see(g, s, after, x, reply.E)
			counts[reply.E == api.OK]++
			s = after
		}
	}
	if counts[true] < 1000 || counts[false] < 500 {
		t.Errorf("the operations were %v", counts)
	}
}

// answers has the results of all functions for some arguments.
type answers struct {
	valid, blocks, kept bool
	made                api.Hold
	madeErr             api.Errno
	live, follow        []api.Hold
	blocker             int
	chunks              []api.Clash
}

// question has arguments for all functions.
type question struct {
	t, other  api.Tree
	l         []api.Hold
	x         api.Op
	path      string
	id, until int
	now       int
	pairs     [][2]int
}

// ask asks all functions.
func (q question) ask() answers {
	a := answers{valid: hold.Valid(q.l), live: hold.Live(q.l, q.now), kept: hold.Kept(q.t, q.other, q.l, q.now), chunks: hold.Chunks(q.t, q.l, q.now), follow: hold.Follow(q.l, q.pairs)}
	a.made, a.madeErr = hold.Make(q.t, q.path, q.id, q.until)
	a.blocker, a.blocks = hold.Blocks(q.t, q.l, q.x, q.now)
	return a
}

func (a answers) equal(b answers) bool {
	return a.valid == b.valid && a.blocks == b.blocks && a.kept == b.kept && equalHold(a.made, b.made) && a.madeErr == b.madeErr && equalHolds(a.live, b.live) && equalHolds(a.follow, b.follow) && a.blocker == b.blocker && slices.Equal(a.chunks, b.chunks)
}

// someQuestion returns arguments that all functions accept.
func someQuestion(g *rand.Rand) question {
	t := pick(g, starts())
	q := question{t: t, other: t, now: 100, x: someOp(g, t), path: somePath(g, t, 1+g.Intn(2)), id: g.Intn(4), until: pick(g, []int{-1, 0, 1, 100, api.MaxTime, api.MaxTime + 1})}
	q.l = someHolds(g, t, q.now)
	for range g.Intn(3) {
		q.other, _ = tree.Do(q.other, someOp(g, q.other), 1)
	}
	for range g.Intn(6) {
		q.pairs = append(q.pairs, [2]int{g.Intn(15), g.Intn(40) - 3})
	}
	return q
}

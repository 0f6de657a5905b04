package erase_test

import (
	"maps"
	"math"
	"math/rand"
	"slices"
	"strings"
	"testing"

	"burgage/api"
	"burgage/erase"
	"burgage/tree"
)

// most is how many bytes a file has at most.
const most = api.MaxBytes

// odd are numbers far from all that there are; none of them is that of a chunk or a node.
var odd = []int{math.MinInt, math.MinInt + 1, math.MinInt32, -2, -1, math.MaxInt32, 1 << 32, 1 << 62, math.MaxInt - 1, math.MaxInt}

func pick[T any](g *rand.Rand, l []T) T { return l[g.Intn(len(l))] }

func hole(n int) api.Piece            { return api.Piece{Id: api.Hole, N: n} }
func gone(n int) api.Piece            { return api.Piece{Id: api.Gone, N: n} }
func of(id, from, n int) api.Piece    { return api.Piece{Id: id, From: from, N: n} }
func body(l ...api.Piece) []api.Piece { return l }
func trees(l ...api.Tree) []api.Tree  { return l }
func orders(l ...api.Hold) []api.Hold { return l }
func ints(l ...int) []int             { return l }

// order returns a hold, what it binds as pairs of a number and a number of bytes.
func order(id, until int, l ...int) api.Hold {
	h := api.Hold{Id: id, Until: until}
	for i := 0; i < len(l); i += 2 {
		h.Bind = append(h.Bind, api.Bind{Node: l[i], N: l[i+1]})
	}
	return h
}

// clashes returns the clashes of chunks and holds pair by pair.
func clashes(l ...int) []api.Clash {
	var c []api.Clash
	for i := 0; i < len(l); i += 2 {
		c = append(c, api.Clash{Chunk: l[i], Hold: l[i+1]})
	}
	return c
}

// sample is a tree in which 0 may do all, and 5 may write in the root. Its numbers have gaps.
//
//	(root)  1
//	a       2
//	a/d     5  a directory with directories alone
//	a/d/x   7  an empty directory
//	a/f     3  10 bytes of the chunk 7
//	a/g, l  4  5 bytes, 3 of which are a hole, and 2 of the chunk 8
//	a/s     6  2 bytes of the chunk 7, before and behind which bytes are erased
//	e       8  an empty directory
//	k       9
//	k/t    12  empty
//	k/u    13  2 bytes of the chunk 7, 3 of 8, a hole, 2 of 7, and 1 of 4095
//	w      11  3 bytes of the chunk 7; it is open by 6
//	       10  4 bytes of the chunk 9, and 1 of 7; it is open by 5 and 8
func sample() api.Tree {
	entries := func(l ...api.Entry) []api.Entry { return l }
	allow := []api.Ace{{Who: 5, Allow: true, Rights: api.MayWrite | api.MayEnter, Reach: api.Here}}
	return api.Tree{
		Nodes: []api.Node{
			{Id: 1, Kind: api.Dir, Owner: 5, Acl: allow, List: entries(api.Entry{Name: "a", Id: 2}, api.Entry{Name: "e", Id: 8}, api.Entry{Name: "k", Id: 9}, api.Entry{Name: "l", Id: 4}, api.Entry{Name: "w", Id: 11}), Links: 1, Ver: 20},
			{Id: 2, Kind: api.Dir, Owner: 8, List: entries(api.Entry{Name: "d", Id: 5}, api.Entry{Name: "f", Id: 3}, api.Entry{Name: "g", Id: 4}, api.Entry{Name: "s", Id: 6}), Links: 1, Ver: 1},
			{Id: 3, Kind: api.File, Owner: 6, Acl: slices.Clone(allow), Body: body(of(7, 0, 10)), Links: 1, Ver: 2},
			{Id: 4, Kind: api.File, Owner: 5, Body: body(hole(3), of(8, 0, 2)), Links: 2, Ver: 3},
			{Id: 5, Kind: api.Dir, Owner: 5, List: entries(api.Entry{Name: "x", Id: 7}), Links: 1, Ver: 4},
			{Id: 6, Kind: api.File, Owner: 5, Body: body(gone(2), of(7, 5, 2), gone(1)), Links: 1, Ver: 5},
			{Id: 7, Kind: api.Dir, Owner: 5, Links: 1, Ver: 6},
			{Id: 8, Kind: api.Dir, Owner: 8, Links: 1, Ver: 7},
			{Id: 9, Kind: api.Dir, Owner: 7, List: entries(api.Entry{Name: "t", Id: 12}, api.Entry{Name: "u", Id: 13}), Links: 1, Ver: 8},
			{Id: 10, Kind: api.File, Owner: 8, Body: body(of(9, 0, 4), of(7, 0, 1)), Links: 0, Ver: 9},
			{Id: 11, Kind: api.File, Owner: 7, Body: body(of(7, 8, 3)), Links: 1, Ver: 10},
			{Id: 12, Kind: api.File, Owner: 6, Links: 1},
			{Id: 13, Kind: api.File, Owner: 6, Body: body(of(7, 0, 2), of(8, 4, 3), hole(1), of(7, 20, 2), of(4095, most-1, 1)), Links: 1, Ver: 12},
		},
		Next:  30,
		Opens: []api.Open{{Node: 10, Who: 5}, {Node: 10, Who: 8}, {Node: 11, Who: 6}},
	}
}

// files returns a tree with a file for each body, with the numbers from 2 on, at a, b, c and so on.
func files(bodies ...[]api.Piece) api.Tree {
	t := tree.New(0)
	for i, b := range bodies {
		t.Nodes = append(t.Nodes, api.Node{Id: i + 2, Kind: api.File, Body: b, Links: 1})
		t.Nodes[0].List = append(t.Nodes[0].List, api.Entry{Name: string(rune('a' + i)), Id: i + 2})
	}
	t.Next = len(bodies) + 2
	return t
}

// starts are trees from which ways of operations go on.
func starts() []api.Tree {
	return trees(sample(), tree.New(0), files(body(of(7, 0, 10)), body(hole(2)), body(gone(3), of(8, 2, 2)), nil))
}

// done does operations that have no error.
func done(t *testing.T, s api.Tree, l ...api.Op) api.Tree {
	t.Helper()
	for _, x := range l {
		var reply api.Reply
		if s, reply = tree.Do(s, x, 1); reply.E != api.OK {
			t.Fatalf("%v: %v", x, reply.E)
		}
	}
	return s
}

func equalTrees(a, b api.Tree) bool {
	return a.Next == b.Next && slices.Equal(a.Opens, b.Opens) && slices.EqualFunc(a.Nodes, b.Nodes, func(m, n api.Node) bool {
		return m.Id == n.Id && m.Kind == n.Kind && m.Owner == n.Owner && m.Links == n.Links && m.Ver == n.Ver && slices.Equal(m.Acl, n.Acl) && slices.Equal(m.List, n.List) && slices.Equal(m.Body, n.Body)
	})
}

func equalOrder(a, b api.Order) bool {
	return a.Id == b.Id && a.By == b.By && a.Done == b.Done && slices.Equal(a.Nodes, b.Nodes) && slices.Equal(a.Chunks, b.Chunks)
}

func isZero(o api.Order) bool { return equalOrder(o, api.Order{}) }

// byteOf is a byte of a chunk; holes and erased bytes have no index.
type byteOf struct{ chunk, index int }

// bytesOf returns the bytes of a body, one by one.
func bytesOf(b []api.Piece) []byteOf {
	var l []byteOf
	for _, p := range b {
		for i := range p.N {
			if p.Id > 0 {
				l = append(l, byteOf{p.Id, p.From + i})
			} else {
				l = append(l, byteOf{p.Id, 0})
			}
		}
	}
	return l
}

// bodyOf returns the body with these bytes.
func bodyOf(l []byteOf) []api.Piece {
	var b []api.Piece
	for i, x := range l {
		if i > 0 && x.chunk == l[i-1].chunk && (x.chunk <= 0 || x.index == l[i-1].index+1) {
			b[len(b)-1].N++
		} else {
			b = append(b, of(x.chunk, x.index, 1))
		}
	}
	return b
}

// fileBytes returns the bytes of the file with this number, one by one.
func fileBytes(t api.Tree, id int) []byteOf {
	for _, n := range t.Nodes {
		if n.Id == id && n.Kind == api.File {
			return bytesOf(n.Body)
		}
	}
	return nil
}

// firstBytes returns the bytes that are bound of one file.
func firstBytes(t api.Tree, b api.Bind) []byteOf {
	l := fileBytes(t, b.Node)
	return l[:min(len(l), max(b.N, 0))]
}

// chunksOf returns the chunks of bytes, in increasing order.
func chunksOf(l []byteOf) []int {
	chunks := map[int]bool{}
	for _, x := range l {
		if x.chunk > 0 {
			chunks[x.chunk] = true
		}
	}
	return slices.Sorted(maps.Keys(chunks))
}

// usedBy says as the chapter does which chunks nodes use.
func usedBy(t api.Tree, ids []int) []int {
	var all []byteOf
	for _, id := range ids {
		all = append(all, fileBytes(t, id)...)
	}
	return chunksOf(all)
}

// numbers returns the numbers of all nodes.
func numbers(t api.Tree) []int {
	var ids []int
	for _, n := range t.Nodes {
		ids = append(ids, n.Id)
	}
	return ids
}

// isAt reports whether a path is another one, or below it.
func isAt(path, top string) bool {
	return top == "" || path == top || strings.HasPrefix(path, top+"/")
}

// filesAt says as the chapter does which files are at and below a path.
func filesAt(t api.Tree, path string) []int {
	var ids []int
	for _, n := range t.Nodes {
		if n.Kind == api.File && slices.ContainsFunc(tree.Paths(t, n.Id), func(p string) bool { return isAt(p, path) }) {
			ids = append(ids, n.Id)
		}
	}
	return ids
}

// has says as the chapter does whether a hold has a chunk in a tree.
func has(t api.Tree, h api.Hold, chunk int) bool {
	return slices.ContainsFunc(h.Bind, func(b api.Bind) bool {
		return slices.ContainsFunc(firstBytes(t, b), func(x byteOf) bool { return x.chunk == chunk })
	})
}

// clashesOf says as the chapter does what stands against some chunks.
func clashesOf(l []api.Tree, holds []api.Hold, chunks []int, by int) []api.Clash {
	var c []api.Clash
	sorted := slices.Sorted(slices.Values(chunks))
	for _, chunk := range sorted {
		for _, h := range holds {
			clash := api.Clash{Chunk: chunk, Hold: h.Id}
			is := slices.ContainsFunc(l, func(t api.Tree) bool { return has(t, h, chunk) })
			if chunk > 0 && h.Until > by && is && !slices.Contains(c, clash) {
				c = append(c, clash)
			}
		}
	}
	return c
}

// without says byte by byte what is left of a tree without some chunks.
func without(t api.Tree, chunks []int) api.Tree {
	t.Nodes = slices.Clone(t.Nodes)
	for i, n := range t.Nodes {
		if n.Kind == api.File {
			l := bytesOf(n.Body)
			for j, x := range l {
				if x.chunk > 0 && slices.Contains(chunks, x.chunk) {
					l[j] = byteOf{api.Gone, 0}
				}
			}
			t.Nodes[i].Body = bodyOf(l)
		}
	}
	return t
}

// somePath returns a path that leads to a node of this kind, or the name z.
func somePath(g *rand.Rand, t api.Tree, kind int) string {
	for range 20 {
		n := pick(g, t.Nodes)
		if paths := tree.Paths(t, n.Id); n.Kind == kind && len(paths) > 0 {
			return pick(g, paths)
		}
	}
	return "z"
}

// newPath returns a path in a directory, where mostly nothing is.
func newPath(g *rand.Rand, t api.Tree) string {
	path := pick(g, []string{"b", "c", "d", "e", "f", "g", "h"})
	if dir := somePath(g, t, api.Dir); dir != "" {
		path = dir + "/" + path
	}
	return path
}

// someOp returns an operation that changes something, mostly one without an error.
func someOp(g *rand.Rand, t api.Tree) api.Op {
	x := api.Op{Kind: 1 + g.Intn(13), Path: somePath(g, t, 1+g.Intn(2)), To: newPath(g, t), Off: g.Intn(10), N: g.Intn(10), Id: pick(g, ints(6, 7, 8, 4095))}
	if g.Intn(3) == 0 {
		x.Kind = pick(g, ints(api.Write, api.Append))
	}
	switch x.Kind {
	case api.Mkdir, api.Create:
		x.Path = newPath(g, t)
	case api.Write, api.Append, api.Cut, api.Link, api.Unlink, api.OpenFile:
		x.Path = somePath(g, t, api.File)
	case api.CloseFile:
		if len(t.Opens) > 0 {
			o := pick(g, t.Opens)
			x.N, x.Who = o.Node, o.Who
		}
	}
	return x
}

// walks does long ways of operations, and shows the tree after each of them to see. On the way, chunks are erased from time to time.
func walks(t *testing.T, seed int64, see func(g *rand.Rand, s api.Tree)) {
	t.Helper()
	g := rand.New(rand.NewSource(seed))
	done, bytes := 0, 0
	for range 60 {
		s := pick(g, starts())
		for range 60 {
			after, reply := tree.Do(s, someOp(g, s), 1)
			if reply.E == api.OK {
				done++
			}
			if s = after; g.Intn(20) == 0 {
				s = without(s, ints(pick(g, ints(6, 7, 8, 9))))
			}
			for _, n := range s.Nodes {
				bytes += len(bytesOf(n.Body))
			}
			see(g, s)
		}
	}
	if done < 1500 || bytes < 100000 {
		t.Errorf("%d operations were done, and there were %d bytes", done, bytes)
	}
}

// someNumbers returns numbers of nodes, in any order, some of them twice, and some of nothing.
func someNumbers(g *rand.Rand, n int) []int {
	var l []int
	for range g.Intn(n) {
		l = append(l, pick(g, ints(0, 1, 2, 3, 4, 5, 6, 7, 8, 9, 10, 11, 12, 13, 31, 32, 33, pick(g, odd))))
	}
	return l
}

// someChunks returns numbers of chunks, in any order, some of them twice, and some of no chunks.
func someChunks(g *rand.Rand, n int) []int {
	var l []int
	for range g.Intn(n) {
		l = append(l, pick(g, ints(6, 7, 8, 9, 4095, 6, 7, 8, 5, 0, 4096, pick(g, odd))))
	}
	return l
}

// someBinds returns what a hold may bind: mostly files, some of them twice, but also directories and numbers that no node has.
func someBinds(g *rand.Rand, t api.Tree) []api.Bind {
	var l []api.Bind
	for range g.Intn(5) {
		n := pick(g, t.Nodes)
		for range 5 {
			if n.Kind != api.File {
				n = pick(g, t.Nodes)
			}
		}
		l = append(l, api.Bind{Node: pick(g, ints(n.Id, n.Id, n.Id, n.Id, n.Id, 0, 99)), N: pick(g, ints(1, 2, 3, 4, 5, 6, 9, 10, 11, 0, -1, most, pick(g, odd)))})
	}
	return l
}

// someHolds returns holds, in any order, whose dates are about now, and some of which have a number twice.
func someHolds(g *rand.Rand, t api.Tree, now int) []api.Hold {
	var l []api.Hold
	for range g.Intn(6) {
		l = append(l, api.Hold{Id: pick(g, ints(1, 2, 3, 4, 5, 6, 7, 8, pick(g, odd))), Until: now + g.Intn(5) - 1, Bind: someBinds(g, t)})
	}
	return l
}

// question has arguments for all functions.
type question struct {
	t      api.Tree
	trees  []api.Tree
	holds  []api.Hold
	chunks []int
	ids    []int
	path   string
	id, by int
}

// answers has the results of all functions for some arguments.
type answers struct {
	files, chunks    []int
	filesErr, madeOf api.Errno
	clashes          []api.Clash
	stripped         api.Tree
	clean            bool
	made             api.Order
}

// ask asks all functions.
func (q question) ask() answers {
	a := answers{chunks: erase.Chunks(q.t, q.ids), clashes: erase.Clashes(q.trees, q.holds, q.chunks, q.by), stripped: erase.Strip(q.t, q.chunks), clean: erase.Clean(q.t, q.chunks)}
	a.files, a.filesErr = erase.Files(q.t, q.path)
	a.made, a.madeOf = erase.Make(q.t, q.path, q.id, q.by)
	return a
}

func (a answers) equal(b answers) bool {
	return slices.Equal(a.files, b.files) && slices.Equal(a.chunks, b.chunks) && a.filesErr == b.filesErr && a.madeOf == b.madeOf && slices.Equal(a.clashes, b.clashes) && equalTrees(a.stripped, b.stripped) && a.clean == b.clean && equalOrder(a.made, b.made)
}

// someQuestion returns arguments that all functions accept.
func someQuestion(g *rand.Rand) question {
	t := pick(g, starts())
	for range g.Intn(4) {
		t, _ = tree.Do(t, someOp(g, t), 1)
	}
	q := question{t: t, chunks: someChunks(g, 6), ids: someNumbers(g, 6), path: pick(g, []string{somePath(g, t, 1), somePath(g, t, 2), "z", "a//f"}), id: pick(g, ints(0, 1, 7, pick(g, odd))), by: pick(g, ints(99, 100, 101, 102))}
	q.holds = someHolds(g, t, 100)
	for range g.Intn(4) {
		q.trees = append(q.trees, pick(g, append(starts(), t, t, t)))
	}
	return q
}

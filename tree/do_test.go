package tree_test

import (
	"math"
	"math/rand"
	"slices"
	"strconv"
	"testing"

	"burgage/api"
	"burgage/tree"
)

// doing is an operation on the sample, with its error, or the number in its reply and what it changes.
type doing struct {
	x      api.Op
	err    api.Errno
	n      int
	change func(*api.Tree)
}

// check does operations on samples of their own.
func check(t *testing.T, l []doing) {
	t.Helper()
	for i, d := range l {
		s, want := sample(), sample()
		got, reply := tree.Do(s, d.x, now)
		if d.change != nil {
			d.change(&want)
		}
		if reply.E != d.err || reply.N != d.n {
			t.Errorf("%d, %v: %v, %d, not %v, %d", i, d.x, reply.E, reply.N, d.err, d.n)
		}
		if !equal(got, want) {
			t.Errorf("%d, %v: %v, not %v", i, d.x, got, want)
		}
		if !tree.Valid(got) || !valid(want) {
			t.Errorf("%d, %v: not valid", i, d.x)
		}
		if d.err != api.OK && !equalReplies(reply, api.Reply{E: d.err}) {
			t.Errorf("%d, %v: %v", i, d.x, reply)
		}
		if again, reply := expected(s, d.x, now); !equal(again, got) || reply.E != d.err {
			t.Errorf("%d, %v: the model gives %v, %v", i, d.x, again, reply)
		}
	}
}

// The chapter's examples.
func TestExamples(t *testing.T) {
	s := tree.New(5)
	if _, reply := tree.Do(s, by(5, mkdir("a")), 3); reply.E != api.ErrDenied {
		t.Errorf("Mkdir: %v", reply)
	}
	s, reply := tree.Do(s, mkdir("a"), 3)
	if !equalReplies(reply, api.Reply{N: 2}) || !equalNodes(s.Nodes[1], api.Node{Id: 2, Kind: api.Dir, Owner: 0, Links: 1, Ver: 3}) || s.Nodes[0].Ver != 3 {
		t.Errorf("Mkdir: %v, %v", reply, s)
	}
	if _, reply := tree.Do(s, by(7, create("a/x")), 4); reply.E != api.ErrDenied {
		t.Errorf("Create: %v", reply)
	}
	s, reply = tree.Do(s, create("a/x"), 4)
	if reply.E != api.OK || reply.N != 3 {
		t.Errorf("Create: %v", reply)
	}
	s = done(t, s, link("a/x", "b"), unlink("a/x"))
	if id, err := tree.Find(s, "b"); id != 3 || err != api.OK || at(s, "b").Links != 1 {
		t.Errorf("the file: %d, %v, %v", id, err, s)
	}
}

// Example 2 of DOC.md: a file that is open stays when its last entry is taken out, and goes when it is closed.
func TestExampleOfOpenFile(t *testing.T) {
	s := done(t, tree.New(0), create("a"), by(0, api.Op{Kind: api.OpenFile, Path: "a"}), unlink("a"))
	if n, err := tree.Get(s, 2); err != api.OK || n.Links != 0 {
		t.Errorf("%v, %v", n, err)
	}
	s = done(t, s, api.Op{Kind: api.CloseFile, N: 2})
	if _, err := tree.Get(s, 2); err != api.ErrNone {
		t.Errorf("%v", err)
	}
}

// P9.1 (I3): who does something, and what kind it has, is looked at first of all.
func TestWhoAndKind(t *testing.T) {
	kinds := append(slices.Clone(odd), 0, 17, 18, 100)
	for kind := range 17 {
		kinds = append(kinds, kind)
	}
	for _, kind := range kinds {
		for _, who := range append(slices.Clone(odd), 0, 1, 5, 999) {
			for _, path := range []string{"", "a", "//", "nothing"} {
				x := api.Op{Kind: kind, Who: who, Path: path, To: path, N: 1, Id: 1}
				s := sample()
				got, reply := tree.Do(s, x, now)
				isKind := 1 <= kind && kind <= 16
				switch {
				case who < 0 || who > 999:
					if reply.E != api.ErrArg {
						t.Fatalf("%v: %v", x, reply)
					}
				case !isKind:
					if reply.E != api.ErrOp {
						t.Fatalf("%v: %v", x, reply)
					}
				case reply.E == api.ErrOp:
					t.Fatalf("%v: %v", x, reply)
				}
				if reply.E != api.OK && (!equal(got, s) || !equalReplies(reply, api.Reply{E: reply.E})) {
					t.Fatalf("%v: %v, %v", x, reply, got)
				}
			}
		}
	}
}

// P9.1 (I3): the kinds that only read.
func TestReads(t *testing.T) {
	for _, kind := range append(slices.Clone(odd), 0, 1, 2, 3, 4, 5, 6, 7, 8, 9, 10, 11, 12, 13, 14, 15, 16, 17, 18) {
		if want := kind == api.List || kind == api.Stat || kind == api.Read; tree.Reads(kind) != want {
			t.Errorf("Reads of %d is %v", kind, !want)
		}
	}
}

// P9.1, P9.5, P9.7 (I3): Mkdir and Create.
func TestMake(t *testing.T) {
	made := func(dir int, name string, n api.Node) func(*api.Tree) {
		return func(t *api.Tree) {
			with(t, dir, name, 30)
			n.Id, n.Links, n.Ver = 30, 1, now
			t.Nodes = append(t.Nodes, n)
			t.Next = 31
		}
	}
	rootGives := acls(given(both(8, w)), given(both(api.Everyone, r|x)))
	for _, kind := range []int{api.Mkdir, api.Create} {
		make := func(who int, path string) api.Op { return api.Op{Kind: kind, Who: who, Path: path} }
		child := api.Node{Kind: api.Dir, Owner: 8, Acl: rootGives}
		below := api.Node{Kind: api.Dir, Acl: acls(given(both(8, r|w|x)))}
		if kind == api.Create {
			child = api.Node{Kind: api.File, Owner: 8, Acl: acls(given(allow(8, w)), given(allow(api.Everyone, r|x)))}
			below = api.Node{Kind: api.File, Acl: acls(given(allow(8, r|w|x)))}
		}
		check(t, []doing{
			{make(8, "z"), api.OK, 30, made(1, "z", child)},
			{make(8, "0"), api.OK, 30, made(1, "0", child)},
			{make(8, "b"), api.OK, 30, made(1, "b", child)},
			{make(0, "a/c"), api.OK, 30, made(2, "c", below)},
			{make(0, "a/b/-"), api.OK, 30, made(5, "-", api.Node{Kind: child.Kind})},
			{make(8, "e/z"), api.OK, 30, made(7, "z", api.Node{Kind: child.Kind, Owner: 8})},
			{make(8, ""), api.ErrPath, 0, nil},
			{make(8, "/z"), api.ErrPath, 0, nil},
			{make(8, "a/b/z"), api.ErrDenied, 0, nil},
			{make(5, "a/z"), api.ErrDenied, 0, nil},
			{make(5, "a/z/z"), api.ErrDenied, 0, nil},
			{make(5, "z/z"), api.ErrNone, 0, nil},
			{make(8, "l/z"), api.ErrDir, 0, nil},
			{make(8, "l/z/z"), api.ErrDir, 0, nil},
			{make(8, "a/f"), api.ErrExists, 0, nil},
			{make(8, "a/b"), api.ErrExists, 0, nil},
			{make(5, "a"), api.ErrExists, 0, nil},
			{make(5, "z"), api.ErrDenied, 0, nil},
			{make(6, "a/z"), api.ErrDenied, 0, nil},
			{make(8, "k/z"), api.ErrDenied, 0, nil},
			{make(7, "k/z"), api.ErrDenied, 0, nil},
		})
	}
}

// P9.1, P9.4 (I3): Write, with the errors of layer 8.
func TestWrite(t *testing.T) {
	write := func(who int, path string, off, id, n int) api.Op {
		return api.Op{Kind: api.Write, Who: who, Path: path, Off: off, Id: id, N: n}
	}
	check(t, []doing{
		{write(8, "a/f", 2, 9, 3), api.OK, 10, becomes(3, of(7, 0, 2), of(9, 0, 3), of(7, 5, 5))},
		{write(8, "a/f", 12, 9, 3), api.OK, 15, becomes(3, of(7, 0, 10), hole(2), of(9, 0, 3))},
		{write(8, "a/f", 0, 7, 10), api.OK, 10, becomes(3, of(7, 0, 10))},
		{write(8, "l", 0, 4095, 1), api.OK, 5, becomes(4, of(4095, 0, 1), hole(2), of(8, 0, 2))},
		{write(8, "a/g", 4, 1, 9), api.OK, 13, becomes(4, hole(3), of(8, 0, 1), of(1, 0, 9))},
		{write(0, "a/b/s", 0, 2, 4), api.OK, 4, becomes(6, of(2, 0, 4))},
		{write(0, "w", 1<<20-1, 2, 1), api.OK, 1 << 20, becomes(11, hole(1<<20-1), of(2, 0, 1))},
		{write(8, "", 0, 1, 1), api.ErrFile, 0, nil},
		{write(8, "a", 0, 1, 1), api.ErrFile, 0, nil},
		{write(5, "a/b", 0, 1, 1), api.ErrDenied, 0, nil},
		{write(8, "a/b", 0, 1, 1), api.ErrFile, 0, nil},
		{write(8, "a/z", 0, 1, 1), api.ErrNone, 0, nil},
		{write(8, "a/f/z", 0, 1, 1), api.ErrDir, 0, nil},
		{write(8, "a//f", 0, 1, 1), api.ErrPath, 0, nil},
		{write(6, "a/f", 0, 1, 1), api.ErrDenied, 0, nil},
		{write(5, "l", -1, 0, 0), api.ErrDenied, 0, nil},
		{write(8, "k/u", -1, 0, 0), api.ErrFile, 0, nil},
		{write(5, "a", -1, 0, 0), api.ErrFile, 0, nil},
		{write(8, "l", -1, 1, 1), api.ErrArg, 0, nil},
		{write(8, "l", 0, 0, 1), api.ErrArg, 0, nil},
		{write(8, "l", 0, -1, 1), api.ErrArg, 0, nil},
		{write(8, "l", 0, 4096, 1), api.ErrArg, 0, nil},
		{write(8, "l", 0, 1, 0), api.ErrArg, 0, nil},
		{write(8, "l", 1, 1, 1<<20), api.ErrBig, 0, nil},
		{write(8, "l", 1<<20, 1, 1), api.ErrBig, 0, nil},
		{write(8, "l", math.MaxInt, 1, math.MaxInt), api.ErrBig, 0, nil},
	})
}

// becomes gives a file of a tree another body.
func becomes(id int, l ...api.Piece) func(*api.Tree) {
	return func(t *api.Tree) { n := node(t, id); n.Body, n.Ver = l, now }
}

// P9.1, P9.4 (I3): Append, with the errors of layer 8.
func TestAppend(t *testing.T) {
	add := func(who int, path string, id, n int) api.Op {
		return api.Op{Kind: api.Append, Who: who, Path: path, Off: -7, Id: id, N: n}
	}
	check(t, []doing{
		{add(8, "a/f", 9, 3), api.OK, 13, becomes(3, of(7, 0, 10), of(9, 0, 3))},
		{add(8, "a/f", 7, 3), api.OK, 13, becomes(3, of(7, 0, 10), of(7, 0, 3))},
		{add(8, "w", 7, 3), api.OK, 3, becomes(11, of(7, 0, 3))},
		{add(0, "a/b/s", 7, 3), api.OK, 6, becomes(6, of(7, 5, 2), gone(1), of(7, 0, 3))},
		{add(0, "w", 7, 1<<20), api.OK, 1 << 20, becomes(11, of(7, 0, 1<<20))},
		{add(8, "a", 7, 3), api.ErrFile, 0, nil},
		{add(5, "a", 7, 0), api.ErrFile, 0, nil},
		{add(8, "z", 7, 3), api.ErrNone, 0, nil},
		{add(8, "w/z", 7, 3), api.ErrDir, 0, nil},
		{add(8, "a/b/s", 7, 3), api.ErrDenied, 0, nil},
		{add(8, ".", 7, 3), api.ErrPath, 0, nil},
		{add(6, "a/f", 7, 3), api.ErrDenied, 0, nil},
		{add(7, "w", 0, 0), api.ErrDenied, 0, nil},
		{add(8, "w", 0, 3), api.ErrArg, 0, nil},
		{add(8, "w", 4096, 3), api.ErrArg, 0, nil},
		{add(8, "w", 7, 0), api.ErrArg, 0, nil},
		{add(8, "w", 7, -1), api.ErrArg, 0, nil},
		{add(8, "w", 7, 1<<20+1), api.ErrBig, 0, nil},
		{add(8, "a/f", 7, 1<<20-9), api.ErrBig, 0, nil},
		{add(8, "a/f", 7, math.MaxInt), api.ErrBig, 0, nil},
	})
}

// P9.1, P9.4 (I3): Cut, with the errors of layer 8.
func TestCut(t *testing.T) {
	cut := func(who int, path string, n int) api.Op {
		return api.Op{Kind: api.Cut, Who: who, Path: path, Off: 9, Id: 9, N: n}
	}
	check(t, []doing{
		{cut(8, "a/f", 4), api.OK, 4, becomes(3, of(7, 0, 4))},
		{cut(8, "a/f", 10), api.OK, 10, becomes(3, of(7, 0, 10))},
		{cut(8, "a/f", 12), api.OK, 12, becomes(3, of(7, 0, 10), hole(2))},
		{cut(8, "l", 0), api.OK, 0, becomes(4)},
		{cut(8, "w", 1<<20), api.OK, 1 << 20, becomes(11, hole(1<<20))},
		{cut(8, "a", 4), api.ErrFile, 0, nil},
		{cut(5, "a", -1), api.ErrFile, 0, nil},
		{cut(8, "z", 4), api.ErrNone, 0, nil},
		{cut(8, "w/z", 4), api.ErrDir, 0, nil},
		{cut(8, "a/b/s", 4), api.ErrDenied, 0, nil},
		{cut(8, "w/", 4), api.ErrPath, 0, nil},
		{cut(5, "w", -1), api.ErrDenied, 0, nil},
		{cut(8, "w", -1), api.ErrArg, 0, nil},
		{cut(8, "w", math.MinInt), api.ErrArg, 0, nil},
		{cut(8, "w", 1<<20+1), api.ErrBig, 0, nil},
		{cut(8, "w", math.MaxInt), api.ErrBig, 0, nil},
	})
}

// P9.1, P9.5 (I3): Link.
func TestLink(t *testing.T) {
	linked := func(dir int, name string, id int) func(*api.Tree) {
		return func(t *api.Tree) { with(t, dir, name, id); node(t, id).Links++ }
	}
	check(t, []doing{
		{by(8, link("a/f", "e/f")), api.OK, 3, linked(7, "f", 3)},
		{by(8, link("a/f", "a/e")), api.OK, 3, linked(2, "e", 3)},
		{by(8, link("l", "a/h")), api.OK, 4, linked(2, "h", 4)},
		{by(8, link("k/t", "0")), api.OK, 12, linked(1, "0", 12)},
		{link("a/b/s", "k/s"), api.OK, 6, linked(9, "s", 6)},
		{by(8, link("", "z")), api.ErrFile, 0, nil},
		{by(8, link("a", "z")), api.ErrFile, 0, nil},
		{by(8, link("a", "//")), api.ErrFile, 0, nil},
		{by(8, link("//", "z")), api.ErrPath, 0, nil},
		{by(8, link("z", "//")), api.ErrNone, 0, nil},
		{by(8, link("l/z", "z")), api.ErrDir, 0, nil},
		{by(8, link("a/b/s", "z")), api.ErrDenied, 0, nil},
		{by(8, link("l", "")), api.ErrPath, 0, nil},
		{by(8, link("l", "z//")), api.ErrPath, 0, nil},
		{by(8, link("l", "z/z")), api.ErrNone, 0, nil},
		{by(8, link("l", "w/z")), api.ErrDir, 0, nil},
		{by(8, link("l", "w/z/z")), api.ErrDir, 0, nil},
		{by(8, link("l", "a/b/z")), api.ErrDenied, 0, nil},
		{by(8, link("l", "a/b/z/z")), api.ErrDenied, 0, nil},
		{by(8, link("l", "l")), api.ErrExists, 0, nil},
		{by(8, link("l", "a/g")), api.ErrExists, 0, nil},
		{by(5, link("l", "e")), api.ErrExists, 0, nil},
		{by(5, link("l", "z")), api.ErrDenied, 0, nil},
		{by(8, link("l", "k/z")), api.ErrDenied, 0, nil},
		{by(6, link("a/f", "a/h")), api.ErrDenied, 0, nil},
	})
}

// P9.1, P9.5 (I3): Unlink, of a file with one entry, with two, and of one that is open.
func TestUnlink(t *testing.T) {
	check(t, []doing{
		{by(8, unlink("a/f")), api.OK, 0, func(t *api.Tree) { lacking(t, 2, "f"); drop(t, 3) }},
		{by(8, unlink("a/g")), api.OK, 0, func(t *api.Tree) { lacking(t, 2, "g"); node(t, 4).Links = 1 }},
		{by(8, unlink("l")), api.OK, 0, func(t *api.Tree) { lacking(t, 1, "l"); node(t, 4).Links = 1 }},
		{by(8, unlink("w")), api.OK, 0, func(t *api.Tree) { lacking(t, 1, "w"); node(t, 11).Links = 0 }},
		{unlink("a/b/s"), api.OK, 0, func(t *api.Tree) { lacking(t, 5, "s"); drop(t, 6) }},
		{by(8, unlink("")), api.ErrPath, 0, nil},
		{by(8, unlink("l/")), api.ErrPath, 0, nil},
		{by(8, unlink("z/z")), api.ErrNone, 0, nil},
		{by(8, unlink("l/z")), api.ErrDir, 0, nil},
		{by(8, unlink("a/b/s")), api.ErrDenied, 0, nil},
		{by(8, unlink("z")), api.ErrNone, 0, nil},
		{by(5, unlink("z")), api.ErrNone, 0, nil},
		{by(8, unlink("a/b")), api.ErrFile, 0, nil},
		{by(8, unlink("e")), api.ErrFile, 0, nil},
		{by(5, unlink("e")), api.ErrFile, 0, nil},
		{by(5, unlink("l")), api.ErrDenied, 0, nil},
		{by(8, unlink("k/t")), api.ErrDenied, 0, nil},
		{by(6, unlink("a/f")), api.ErrDenied, 0, nil},
	})
}

// P9.1, P9.5 (I3): Rmdir.
func TestRmdir(t *testing.T) {
	check(t, []doing{
		{by(8, rmdir("e")), api.OK, 0, func(t *api.Tree) { lacking(t, 1, "e"); drop(t, 7) }},
		{rmdir("k/u"), api.OK, 0, func(t *api.Tree) { lacking(t, 9, "u"); drop(t, 13) }},
		{by(8, rmdir("")), api.ErrPath, 0, nil},
		{by(8, rmdir("e/")), api.ErrPath, 0, nil},
		{by(8, rmdir("z/z")), api.ErrNone, 0, nil},
		{by(8, rmdir("l/z")), api.ErrDir, 0, nil},
		{by(8, rmdir("a/b/z")), api.ErrDenied, 0, nil},
		{by(8, rmdir("z")), api.ErrNone, 0, nil},
		{by(5, rmdir("z")), api.ErrNone, 0, nil},
		{by(8, rmdir("l")), api.ErrDir, 0, nil},
		{by(5, rmdir("l")), api.ErrDir, 0, nil},
		{by(5, rmdir("e")), api.ErrDenied, 0, nil},
		{by(5, rmdir("a")), api.ErrDenied, 0, nil},
		{by(8, rmdir("k/u")), api.ErrDenied, 0, nil},
		{by(8, rmdir("a")), api.ErrEmpty, 0, nil},
		{by(8, rmdir("a/b")), api.ErrEmpty, 0, nil},
		{rmdir("k"), api.ErrEmpty, 0, nil},
	})
}

// P9.1, P9.5 (I3): Rename of files and directories to where nothing is, and over what is there.
func TestRename(t *testing.T) {
	moved := func(from int, n string, to int, k string, id int) func(*api.Tree) {
		return func(t *api.Tree) { lacking(t, from, n); lacking(t, to, k); with(t, to, k, id) }
	}
	check(t, []doing{
		{by(8, rename("a/f", "z")), api.OK, 0, moved(2, "f", 1, "z", 3)},
		{by(8, rename("a/f", "a/0")), api.OK, 0, moved(2, "f", 2, "0", 3)},
		{by(8, rename("a/f", "a/z")), api.OK, 0, moved(2, "f", 2, "z", 3)},
		{by(8, rename("a", "z")), api.OK, 0, moved(1, "a", 1, "z", 2)},
		{by(8, rename("a", "aa")), api.OK, 0, moved(1, "a", 1, "aa", 2)},
		{by(8, rename("a", "e/a")), api.OK, 0, moved(1, "a", 7, "a", 2)},
		{by(8, rename("a/b", "e/a")), api.OK, 0, moved(2, "b", 7, "a", 5)},
		{by(8, rename("w", "a/f")), api.OK, 0, func(t *api.Tree) { moved(1, "w", 2, "f", 11)(t); drop(t, 3) }},
		{by(8, rename("a/f", "w")), api.OK, 0, func(t *api.Tree) { moved(2, "f", 1, "w", 3)(t); node(t, 11).Links = 0 }},
		{by(8, rename("a/f", "l")), api.OK, 0, func(t *api.Tree) { moved(2, "f", 1, "l", 3)(t); node(t, 4).Links = 1 }},
		{by(8, rename("a/f", "a/g")), api.OK, 0, func(t *api.Tree) { moved(2, "f", 2, "g", 3)(t); node(t, 4).Links = 1 }},
		{by(8, rename("l", "a/f")), api.OK, 0, func(t *api.Tree) { moved(1, "l", 2, "f", 4)(t); drop(t, 3) }},
		{by(8, rename("a", "e")), api.OK, 0, func(t *api.Tree) { moved(1, "a", 1, "e", 2)(t); drop(t, 7) }},
		{by(8, rename("k", "e")), api.OK, 0, func(t *api.Tree) { moved(1, "k", 1, "e", 9)(t); drop(t, 7) }},
		{rename("e", "k/u"), api.OK, 0, func(t *api.Tree) { moved(1, "e", 9, "u", 7)(t); drop(t, 13) }},
		{rename("k/u", "e"), api.OK, 0, func(t *api.Tree) { moved(9, "u", 1, "e", 13)(t); drop(t, 7) }},
		// Two entries of one file: the other directory is not touched.
		{by(8, rename("l", "a/g")), api.OK, 0, func(t *api.Tree) { lacking(t, 1, "l"); node(t, 4).Links = 1 }},
		{by(8, rename("a/g", "l")), api.OK, 0, func(t *api.Tree) { lacking(t, 2, "g"); node(t, 4).Links = 1 }},
	})
}

// P9.1 (I3): what Rename refuses, and in which order.
func TestRenameRefuses(t *testing.T) {
	check(t, []doing{
		{by(8, rename("", "z")), api.ErrPath, 0, nil},
		{by(8, rename("//", "z")), api.ErrPath, 0, nil},
		{by(8, rename("z/z", "")), api.ErrNone, 0, nil},
		{by(8, rename("l/z", "")), api.ErrDir, 0, nil},
		{by(8, rename("a/b/s", "")), api.ErrDenied, 0, nil},
		{by(8, rename("z", "")), api.ErrNone, 0, nil},
		{by(5, rename("z", "l")), api.ErrNone, 0, nil},
		{by(8, rename("l", "")), api.ErrPath, 0, nil},
		{by(8, rename("l", "a/")), api.ErrPath, 0, nil},
		{by(5, rename("l", "a/")), api.ErrPath, 0, nil},
		{by(5, rename("l", "z/z")), api.ErrNone, 0, nil},
		{by(8, rename("l", "z/z")), api.ErrNone, 0, nil},
		{by(8, rename("l", "w/z")), api.ErrDir, 0, nil},
		{by(8, rename("l", "a/b/z")), api.ErrDenied, 0, nil},
		{by(8, rename("l", "l/z")), api.ErrDir, 0, nil},
		{by(8, rename("a", "a/b/z")), api.ErrDenied, 0, nil},
		{by(8, rename("a", "a/z/z")), api.ErrNone, 0, nil},
		// Write in both directories.
		{by(8, rename("k/t", "z")), api.ErrDenied, 0, nil},
		{by(8, rename("l", "k/z")), api.ErrDenied, 0, nil},
		{by(8, rename("l", "k/u")), api.ErrDenied, 0, nil},
		{by(5, rename("l", "l")), api.ErrDenied, 0, nil},
		{by(5, rename("a", "l")), api.ErrDenied, 0, nil},
		// Onto itself, and below itself.
		{by(8, rename("l", "l")), api.ErrInside, 0, nil},
		{by(8, rename("e", "e")), api.ErrInside, 0, nil},
		{by(8, rename("a", "a")), api.ErrInside, 0, nil},
		{by(8, rename("a", "a/z")), api.ErrInside, 0, nil},
		{by(8, rename("a", "a/f")), api.ErrInside, 0, nil},
		{rename("a", "a/b/s"), api.ErrInside, 0, nil},
		{rename("a", "a/b/z"), api.ErrInside, 0, nil},
		// Over what is there.
		{by(8, rename("e", "l")), api.ErrDir, 0, nil},
		{by(8, rename("a", "l")), api.ErrDir, 0, nil},
		{by(8, rename("l", "e")), api.ErrFile, 0, nil},
		{by(8, rename("l", "a")), api.ErrFile, 0, nil},
		{by(8, rename("a/f", "a")), api.ErrFile, 0, nil},
		{by(8, rename("e", "a")), api.ErrEmpty, 0, nil},
		{by(8, rename("e", "k")), api.ErrEmpty, 0, nil},
		{by(8, rename("a/b", "a")), api.ErrEmpty, 0, nil},
	})
}

// P9.1, P9.5 (I3): what is below a directory comes along, with all its numbers.
func TestRenameMovesAll(t *testing.T) {
	s, _ := tree.Do(sample(), rename("a", "e/x"), now)
	for _, e := range []struct {
		path string
		id   int
	}{{"e/x", 2}, {"e/x/b", 5}, {"e/x/b/s", 6}, {"e/x/f", 3}, {"e/x/g", 4}, {"l", 4}} {
		if id, err := tree.Find(s, e.path); id != e.id || err != api.OK {
			t.Errorf("%s: %d, %v", e.path, id, err)
		}
	}
	for _, path := range []string{"a", "a/b", "a/b/s", "a/f"} {
		if _, err := tree.Find(s, path); err != api.ErrNone {
			t.Errorf("%s: %v", path, err)
		}
	}
}

// many are n entries with different marks.
func many(n int) []api.Ace {
	var l []api.Ace
	for i := range n {
		l = append(l, allow(100+i, r))
	}
	return l
}

// P9.1 (I3): SetAcl, with given entries that are kept, up to 16 in all.
func TestSetAcl(t *testing.T) {
	set := func(who int, path string, l ...api.Ace) api.Op {
		return api.Op{Kind: api.SetAcl, Who: who, Path: path, Acl: l}
	}
	has := func(id int, l ...api.Ace) func(*api.Tree) {
		return func(t *api.Tree) { n := node(t, id); n.Acl, n.Ver = l, now }
	}
	kept := given(allow(8, w))
	check(t, []doing{
		{set(5, "", both(9, r)), api.OK, 0, has(1, both(9, r))},
		{set(5, ""), api.OK, 0, has(1)},
		{set(0, "a", sample().Nodes[1].Acl...), api.OK, 0, has(2, sample().Nodes[1].Acl...)},
		{set(6, "a/f", allow(1, r), allow(8, w)), api.OK, 0, has(3, allow(1, r), allow(8, w), kept)},
		{set(6, "a/f"), api.OK, 0, has(3, kept)},
		{set(6, "a/f", many(15)...), api.OK, 0, has(3, append(many(15), kept)...)},
		{set(6, "a/f", many(16)...), api.ErrBig, 0, nil},
		{set(5, "l", many(16)...), api.OK, 0, has(4, many(16)...)},
		{set(5, "l", many(17)...), api.ErrAcl, 0, nil},
		{set(6, "a/f", append(many(16), given(allow(2, r)))...), api.ErrAcl, 0, nil},
		{set(6, "a/f", kept), api.ErrAcl, 0, nil},
		{set(6, "a/f", allow(1, r), kept), api.ErrAcl, 0, nil},
		{set(6, "a/f", allow(1, 0)), api.ErrAcl, 0, nil},
		{set(6, "a/f", allow(1, 16)), api.ErrAcl, 0, nil},
		{set(6, "a/f", allow(1000, r)), api.ErrAcl, 0, nil},
		{set(6, "a/f", allow(1, r), allow(1, w)), api.ErrAcl, 0, nil},
		{set(6, "a/f", api.Ace{Who: 1, Rights: r}), api.ErrAcl, 0, nil},
		{set(8, "a/f", kept), api.ErrDenied, 0, nil},
		{set(8, "a/f", many(16)...), api.ErrDenied, 0, nil},
		{set(8, "l"), api.ErrDenied, 0, nil},
		{set(8, "a/b/s"), api.ErrDenied, 0, nil},
		{set(8, "a/b/z"), api.ErrDenied, 0, nil},
		{set(8, "a/z", kept), api.ErrNone, 0, nil},
		{set(8, "l/z", kept), api.ErrDir, 0, nil},
		{set(8, "/l", kept), api.ErrPath, 0, nil},
		{set(8, "a/b", both(8, x)), api.OK, 0, has(5, both(8, x))},
	})
}

// P9.1, P9.7 (I3): who may rule by an entry may set the list as well.
func TestSetAclByRule(t *testing.T) {
	s := sample()
	node(&s, 4).Acl = acls(allow(9, api.MayRule))
	if _, reply := tree.Do(s, api.Op{Kind: api.SetAcl, Who: 9, Path: "l"}, now); reply.E != api.OK {
		t.Errorf("SetAcl: %v", reply.E)
	}
	if _, reply := tree.Do(s, api.Op{Kind: api.Chown, Who: 9, Path: "l", N: 9}, now); reply.E != api.OK {
		t.Errorf("Chown: %v", reply.E)
	}
	if _, reply := tree.Do(s, api.Op{Kind: api.Write, Who: 9, Path: "l", Id: 1, N: 1}, now); reply.E != api.ErrDenied {
		t.Errorf("Write: %v", reply.E)
	}
}

// P9.1 (I3): Chown, to the last person, and one further.
func TestChown(t *testing.T) {
	give := func(who int, path string, n int) api.Op {
		return api.Op{Kind: api.Chown, Who: who, Path: path, N: n}
	}
	owned := func(id, who int) func(*api.Tree) {
		return func(t *api.Tree) { n := node(t, id); n.Owner, n.Ver = who, now }
	}
	l := []doing{
		{give(5, "", 6), api.OK, 0, owned(1, 6)},
		{give(5, "l", 999), api.OK, 0, owned(4, 999)},
		{give(8, "e", 0), api.OK, 0, owned(7, 0)},
		{give(8, "a/b", 8), api.OK, 0, owned(5, 8)},
		{give(0, "a/b/s", 1), api.OK, 0, owned(6, 1)},
		{give(8, "l", 1000), api.ErrDenied, 0, nil},
		{give(5, "a/f", 5), api.ErrDenied, 0, nil},
		{give(5, "z", -1), api.ErrNone, 0, nil},
		{give(5, "l/z", -1), api.ErrDir, 0, nil},
		{give(5, "a/b/s", -1), api.ErrDenied, 0, nil},
		{give(5, "/", -1), api.ErrPath, 0, nil},
	}
	for _, who := range odd {
		l = append(l, doing{give(5, "l", who), api.ErrArg, 0, nil}, doing{give(0, "", who), api.ErrArg, 0, nil})
	}
	check(t, l)
}

// P9.1 (I3): List.
func TestList(t *testing.T) {
	for _, e := range []struct {
		who   int
		path  string
		names []string
		err   api.Errno
	}{
		{5, "", []string{"a", "e", "k", "l", "w"}, api.OK},
		{8, "a", []string{"b", "f", "g"}, api.OK},
		{0, "a/b", []string{"s"}, api.OK},
		{8, "e", nil, api.OK},
		{6, "k", []string{"t", "u"}, api.OK},
		{8, "k", nil, api.ErrDenied},
		{6, "a", nil, api.ErrDenied},
		{8, "a/b", nil, api.ErrDenied},
		{8, "l", nil, api.ErrDir},
		{6, "k/t", nil, api.ErrDenied},
		{7, "w", nil, api.ErrDir},
		{8, "z", nil, api.ErrNone},
		{8, "w/z", nil, api.ErrDir},
		{8, "//", nil, api.ErrPath},
	} {
		s := sample()
		got, reply := tree.Do(s, api.Op{Kind: api.List, Who: e.who, Path: e.path}, now)
		if !equal(got, s) || !equalReplies(reply, api.Reply{E: e.err, N: len(e.names), Names: e.names}) {
			t.Errorf("List of %q by %d: %v", e.path, e.who, reply)
		}
	}
}

// P9.1 (I3): Stat, for which no right at the node itself is needed.
func TestStat(t *testing.T) {
	for _, e := range []struct {
		who      int
		path     string
		id, size int
		err      api.Errno
	}{
		{9, "", 1, 5, api.OK}, {9, "a", 2, 3, api.OK}, {6, "a/f", 3, 10, api.OK}, {6, "a/g", 4, 5, api.OK}, {9, "l", 4, 5, api.OK}, {6, "a/b", 5, 1, api.OK}, {0, "a/b/s", 6, 3, api.OK}, {9, "e", 7, 0, api.OK}, {9, "w", 11, 0, api.OK},
		{9, "a/f", 0, 0, api.ErrDenied}, {8, "a/b/s", 0, 0, api.ErrDenied}, {9, "z", 0, 0, api.ErrNone}, {9, "w/z", 0, 0, api.ErrDir}, {9, "..", 0, 0, api.ErrPath},
	} {
		s := sample()
		got, reply := tree.Do(s, by(e.who, stat(e.path)), now)
		want := api.Reply{E: e.err, N: e.size}
		if e.err == api.OK {
			want.Node = *node(&s, e.id)
			want.Node.List, want.Node.Body = nil, nil
		}
		if !equal(got, s) || !equalReplies(reply, want) {
			t.Errorf("Stat of %q by %d: %v", e.path, e.who, reply)
		}
	}
}

// P9.1, P9.4 (I3): Read, by a path and by a number, with negative numbers, and beyond the end.
func TestRead(t *testing.T) {
	for _, e := range []struct {
		x    api.Op
		body []api.Piece
		err  api.Errno
	}{
		{api.Op{Who: 8, Path: "a/f", N: 20}, body(of(7, 0, 10)), api.OK},
		{api.Op{Who: 8, Path: "a/f", Off: 3, N: 4, Id: 10}, body(of(7, 3, 4)), api.OK},
		{api.Op{Who: 8, Path: "a/f", Off: 3}, nil, api.OK},
		{api.Op{Who: 8, Path: "a/f", Off: 9, N: 4}, body(of(7, 9, 1)), api.OK},
		{api.Op{Who: 8, Path: "a/f", Off: 10, N: 4}, nil, api.OK},
		{api.Op{Who: 8, Path: "a/f", Off: math.MaxInt, N: math.MaxInt}, nil, api.OK},
		{api.Op{Who: 8, Path: "a/f", Off: 1, N: math.MaxInt}, body(of(7, 1, 9)), api.OK},
		{api.Op{Who: 9, Path: "l", Off: 2, N: 2}, body(hole(1), of(8, 0, 1)), api.OK},
		{api.Op{Who: 0, Path: "a/b/s", Off: 1, N: 2}, body(of(7, 6, 1), gone(1)), api.OK},
		{api.Op{Who: 8, Path: "w", N: 1}, nil, api.OK},
		{api.Op{Who: 8, Path: "a/f", Off: -1, N: 1}, nil, api.ErrArg},
		{api.Op{Who: 8, Path: "a/f", N: -1}, nil, api.ErrArg},
		{api.Op{Who: 8, Path: "a/f", Off: math.MinInt, N: math.MinInt}, nil, api.ErrArg},
		{api.Op{Who: 6, Path: "a/f", Off: -1}, nil, api.ErrDenied},
		{api.Op{Who: 6, Path: "w"}, nil, api.ErrDenied},
		{api.Op{Who: 6, Path: "w", Id: 11}, nil, api.ErrDenied},
		{api.Op{Who: 8, Path: "a", N: -1}, nil, api.ErrFile},
		{api.Op{Who: 8, Path: "a/b", N: 1}, nil, api.ErrFile},
		{api.Op{Who: 8, Path: "z", N: -1}, nil, api.ErrNone},
		{api.Op{Who: 8, Path: "w/z", N: -1}, nil, api.ErrDir},
		{api.Op{Who: 8, Path: "a/b/s", N: -1}, nil, api.ErrDenied},
		{api.Op{Who: 8, Path: "a//f", N: -1}, nil, api.ErrPath},
		// By numbers.
		{api.Op{Who: 5, Id: 10, N: 9}, body(of(9, 0, 4)), api.OK},
		{api.Op{Who: 8, Id: 10, Off: 1, N: 2}, body(of(9, 1, 2)), api.OK},
		{api.Op{Who: 6, Id: 11, N: 2}, nil, api.OK},
		{api.Op{Who: 6, Id: 11, N: -1}, nil, api.ErrArg},
		{api.Op{Who: 5, Id: 10, Off: -1}, nil, api.ErrArg},
		{api.Op{Who: 0, Id: 10, N: -1}, nil, api.ErrNone},
		{api.Op{Who: 6, Id: 10, N: 1}, nil, api.ErrNone},
		{api.Op{Who: 5, Id: 11, N: 1}, nil, api.ErrNone},
		{api.Op{Who: 8, Id: 3, N: 1}, nil, api.ErrNone},
		{api.Op{Who: 8, Id: 1, N: 1}, nil, api.ErrNone},
		{api.Op{Who: 8, Id: 0, N: 1}, nil, api.ErrNone},
		{api.Op{Who: 8, N: 10}, nil, api.ErrNone},
	} {
		e.x.Kind = api.Read
		s := sample()
		got, reply := tree.Do(s, e.x, now)
		size := 0
		for _, p := range e.body {
			size += p.N
		}
		if !equal(got, s) || !equalReplies(reply, api.Reply{E: e.err, N: size, Body: e.body}) {
			t.Errorf("%v: %v", e.x, reply)
		}
	}
	for _, id := range odd {
		if _, reply := tree.Do(sample(), api.Op{Kind: api.Read, Who: 5, Id: id, N: 1}, now); reply.E != api.ErrNone {
			t.Errorf("Read of %d: %v", id, reply)
		}
	}
}

// P9.1 (I3): a version that is negative is 0, and reading sets none.
func TestVersions(t *testing.T) {
	for _, ver := range []int{math.MinInt, -2, -1, 0, 1, 5, math.MaxInt} {
		s, reply := tree.Do(sample(), create("e/z"), ver)
		if want := max(ver, 0); reply.E != api.OK || at(s, "e").Ver != want || at(s, "e/z").Ver != want || at(s, "").Ver != 10 || !tree.Valid(s) {
			t.Errorf("the version %d: %v", ver, s)
		}
		if s, _ := tree.Do(sample(), stat("e"), ver); !equal(s, sample()) {
			t.Errorf("the version %d: %v", ver, s)
		}
	}
}

// someName returns one of few names; some of them come before the sign between names, so that orders of paths and of names differ.
func someName(g *rand.Rand) string { return pick(g, []string{"a", "b", "c", "a-", "a.b", "~"}) }

// somePath returns a path that is there, or nearly so.
func somePath(g *rand.Rand, t api.Tree) string {
	id := t.Nodes[g.Intn(len(t.Nodes))].Id
	paths := tree.Paths(t, id)
	if len(paths) == 0 || g.Intn(40) == 0 {
		return pick(g, append([]string{"", "z", "a/z"}, noPaths[:16]...))
	}
	path := pick(g, paths)
	if g.Intn(2) == 0 {
		return path
	}
	if path == "" {
		return someName(g)
	}
	return path + "/" + someName(g)
}

// someAce returns an entry that is right but now and then.
func someAce(g *rand.Rand) api.Ace {
	return api.Ace{Who: pick(g, []int{-2, -1, 1, 2, 3}), Allow: g.Intn(3) > 0, Rights: 1 + g.Intn(15), Reach: 1 + g.Intn(3), Given: g.Intn(40) == 0}
}

// somePathTo returns a path that leads to a node of this kind, if one was found.
func somePathTo(g *rand.Rand, t api.Tree, kind int) string {
	for range 10 {
		n := pick(g, t.Nodes)
		if paths := tree.Paths(t, n.Id); n.Kind == kind && len(paths) > 0 {
			return pick(g, paths)
		}
	}
	return somePath(g, t)
}

// someOp returns an operation, often one without an error.
func someOp(g *rand.Rand, t api.Tree) api.Op {
	o := api.Op{Kind: g.Intn(17), Who: pick(g, []int{0, 0, 0, 1, 2, 3}), Path: somePath(g, t), To: somePath(g, t)}
	if g.Intn(50) == 0 {
		o.Who = pick(g, odd)
	}
	o.Off, o.N, o.Id = g.Intn(9)-1, g.Intn(9)-1, g.Intn(9)
	switch o.Kind {
	case api.Link, api.Unlink, api.Write, api.Append, api.Cut, api.OpenFile:
		if g.Intn(2) == 0 {
			o.Path = somePathTo(g, t, api.File)
		}
	case api.Rmdir:
		if g.Intn(2) == 0 {
			o.Path = somePathTo(g, t, api.Dir)
		}
	case api.CloseFile, api.Read:
		if len(t.Opens) > 0 && g.Intn(3) > 0 {
			open := pick(g, t.Opens)
			o.N, o.Id, o.Who = open.Node, open.Node, open.Who
			if o.Kind == api.Read {
				o.Path = ""
			}
		}
	case api.SetAcl:
		for range g.Intn(4) {
			o.Acl = append(o.Acl, someAce(g))
		}
		if g.Intn(10) == 0 {
			o.Acl = append(o.Acl, many(13)...)
		}
	case api.Chown:
		o.N = pick(g, []int{0, 1, 2, 3, 1000})
	}
	return o
}

// starts are trees from which long ways of operations begin: small ones, and such as are full.
func starts(t *testing.T) []api.Tree {
	full := wide(32)
	for who := range 31 {
		full.Opens = append(full.Opens, api.Open{Node: who + 2, Who: who % 4})
	}
	return []api.Tree{tree.New(0), tree.New(1), sample(), deep(t, 5), deep(t, 8), wide(250), full}
}

// P9.1, P9.2, P9.3 (I3): long ways of operations, each of which does what the model does, and leads to a valid tree.
func TestAtRandom(t *testing.T) {
	g := rand.New(rand.NewSource(2))
	counts := map[api.Errno]int{}
	fine := map[int]int{}
	list := starts(t)
	for i := range 20 * len(list) {
		s, steps := list[i%len(list)], 200
		if len(s.Nodes) > 40 {
			steps = 60
		}
		for step := range steps {
			o, ver := someOp(g, s), g.Intn(5)-1
			if len(s.Nodes) > 40 && step%4 > 0 {
				o.Kind, o.Path = api.Create, "n"+strconv.Itoa(step)
			}
			got, reply := tree.Do(s, o, ver)
			want, wantReply := expected(s, o, ver)
			if !equal(got, want) || !equalReplies(reply, wantReply) {
				t.Fatalf("%v of %v: %v, %v, not %v, %v", o, s, got, reply, want, wantReply)
			}
			if !valid(got) || !tree.Valid(got) {
				t.Fatalf("%v of %v: %v is not valid", o, s, got)
			}
			if reply.E != api.OK || tree.Reads(o.Kind) {
				if !equal(got, s) {
					t.Fatalf("%v of %v: changed: %v", o, s, got)
				}
			}
			counts[reply.E]++
			if reply.E == api.OK {
				fine[o.Kind]++
			}
			s = got
		}
	}
	for _, err := range []api.Errno{api.OK, api.ErrArg, api.ErrBig, api.ErrPath, api.ErrAcl, api.ErrNone, api.ErrExists, api.ErrDir, api.ErrFile, api.ErrEmpty, api.ErrDenied, api.ErrInside, api.ErrOp} {
		if counts[err] < 20 {
			t.Errorf("%v came %d times", err, counts[err])
		}
	}
	for kind := 1; kind <= 16; kind++ {
		if fine[kind] < 30 {
			t.Errorf("the kind %d was done %d times", kind, fine[kind])
		}
	}
}

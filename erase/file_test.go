package erase_test

import (
	"math"
	"math/rand"
	"slices"
	"strings"
	"testing"

	"burgage/api"
	"burgage/erase"
	"burgage/tree"
)

// P13.1 to P13.5, P13.7: the examples of the chapter.
func TestExamples(t *testing.T) {
	s := done(t, tree.New(5), api.Op{Kind: api.Create, Path: "a"}, api.Op{Kind: api.Write, Path: "a", Id: 1, N: 3})
	for path, want := range map[string]api.Errno{"": api.OK, "a": api.OK, "b": api.ErrNone} {
		got, err := erase.Files(s, path)
		if err != want || err == api.OK && !slices.Equal(got, ints(2)) || err != api.OK && len(got) > 0 {
			t.Errorf("Files of %q: %v, %v", path, got, err)
		}
	}
	if got, err := erase.Make(s, "a", 7, 100); !equalOrder(got, api.Order{Id: 7, By: 100, Nodes: ints(2), Chunks: ints(1)}) || err != api.OK {
		t.Errorf("Make: %v, %v", got, err)
	}
	l := orders(order(3, 50, 2, 1))
	if got := erase.Clashes(trees(s), l, ints(1), 40); !slices.Equal(got, clashes(1, 3)) {
		t.Errorf("Clashes by 40: %v", got)
	}
	if got := erase.Clashes(trees(s), l, ints(1), 50); len(got) > 0 {
		t.Errorf("Clashes by 50: %v", got)
	}
	got := erase.Strip(s, ints(1))
	if _, reply := tree.Do(got, api.Op{Kind: api.Read, Path: "a", N: 9}, 1); !slices.Equal(reply.Body, body(gone(3))) {
		t.Errorf("Strip: %v", reply)
	}
	if erase.Clean(s, ints(1)) || !erase.Clean(got, ints(1)) {
		t.Error("what is stripped is not clean, or what is not stripped is")
	}
}

// P13.1, P13.2 (M1): files, directories, the root, empty directories, those with directories alone, and a file with two entries, one of them elsewhere.
func TestFiles(t *testing.T) {
	for path, want := range map[string][]int{
		"":      ints(3, 4, 6, 11, 12, 13),
		"a":     ints(3, 4, 6),
		"a/d":   nil,
		"a/d/x": nil,
		"a/f":   ints(3),
		"a/g":   ints(4),
		"l":     ints(4),
		"a/s":   ints(6),
		"e":     nil,
		"k":     ints(12, 13),
		"k/t":   ints(12),
		"k/u":   ints(13),
		"w":     ints(11),
	} {
		if got, err := erase.Files(sample(), path); !slices.Equal(got, want) || err != api.OK {
			t.Errorf("%q: %v, %v, not %v", path, got, err, want)
		}
	}
	if got, err := erase.Files(tree.New(5), ""); len(got) > 0 || err != api.OK {
		t.Errorf("a new tree: %v, %v", got, err)
	}
	// Entries that are not in the order of their numbers, two of one file, and one far below.
	s := done(t, sample(), api.Op{Kind: api.Create, Path: "e/a"}, api.Op{Kind: api.Mkdir, Path: "e/d"}, api.Op{Kind: api.Link, Path: "k/u", To: "e/b"}, api.Op{Kind: api.Link, Path: "k/u", To: "e/d/y"}, api.Op{Kind: api.Rename, Path: "a/f", To: "e/d/x"}, api.Op{Kind: api.Unlink, Path: "w"})
	for path, want := range map[string][]int{"e": ints(3, 13, 30), "e/d": ints(3, 13), "k": ints(12, 13), "a": ints(4, 6), "": ints(3, 4, 6, 12, 13, 30)} {
		if got, err := erase.Files(s, path); !slices.Equal(got, want) || err != api.OK {
			t.Errorf("%q then: %v, %v, not %v", path, got, err, want)
		}
	}
}

// refused are paths with the errors of Find for the sample.
func refused() map[string]api.Errno {
	return map[string]api.Errno{
		"z": api.ErrNone, "a/z": api.ErrNone, "z/z": api.ErrNone, "e/f": api.ErrNone, "a/d/x/y": api.ErrNone,
		"a/f/z": api.ErrDir, "w/w": api.ErrDir, "a/f/z/z": api.ErrDir,
		"/": api.ErrPath, "/a": api.ErrPath, "a/": api.ErrPath, "a//f": api.ErrPath, "..": api.ErrPath, "ä": api.ErrPath, "a\x00": api.ErrPath, "abcdefghijklmnopq": api.ErrPath, strings.Repeat("a/", 8) + "a": api.ErrPath,
	}
}

// P13.1, P13.7, and P1 of the document (M1, M6): paths that lead nowhere, and texts that are no paths.
func TestRefused(t *testing.T) {
	for path, want := range refused() {
		if _, err := tree.Find(sample(), path); err != want {
			t.Fatalf("Find of %q: %v", path, err)
		}
		if got, err := erase.Files(sample(), path); len(got) > 0 || err != want {
			t.Errorf("Files of %q: %v, %v", path, got, err)
		}
		if got, err := erase.Make(sample(), path, 7, 100); !isZero(got) || err != want {
			t.Errorf("Make of %q: %v, %v", path, got, err)
		}
	}
}

// P13.7 (M6): directories without files are refused, though Files finds nothing to refuse in them.
func TestMakeWithoutFiles(t *testing.T) {
	s := done(t, files(body(of(7, 0, 1))), api.Op{Kind: api.OpenFile, Path: "a", Who: 0}, api.Op{Kind: api.Unlink, Path: "a"}, api.Op{Kind: api.Mkdir, Path: "b"})
	for _, e := range []struct {
		t    api.Tree
		path string
	}{{sample(), "e"}, {sample(), "a/d"}, {sample(), "a/d/x"}, {tree.New(0), ""}, {tree.New(7), ""}, {s, ""}, {s, "b"}} {
		if got, err := erase.Make(e.t, e.path, 7, 100); !isZero(got) || err != api.ErrNone {
			t.Errorf("Make of %q: %v, %v", e.path, got, err)
		}
		if got, err := erase.Files(e.t, e.path); len(got) > 0 || err != api.OK {
			t.Errorf("Files of %q: %v, %v", e.path, got, err)
		}
	}
}

// P13.1, P13.5 (M6): orders for files and directories, also for a file that has no bytes, and one whose bytes are no chunk's.
func TestMake(t *testing.T) {
	for path, want := range map[string][2][]int{
		"":    {ints(3, 4, 6, 11, 12, 13), ints(7, 8, 4095)},
		"a":   {ints(3, 4, 6), ints(7, 8)},
		"a/f": {ints(3), ints(7)},
		"a/g": {ints(4), ints(8)},
		"l":   {ints(4), ints(8)},
		"a/s": {ints(6), ints(7)},
		"k":   {ints(12, 13), ints(7, 8, 4095)},
		"k/t": {ints(12), nil},
		"k/u": {ints(13), ints(7, 8, 4095)},
		"w":   {ints(11), ints(7)},
	} {
		for _, id := range append(slices.Clone(odd), 0, 1, 7, 16, 17) {
			for _, by := range append(slices.Clone(odd), 0, 1, 100, api.MaxTime, api.MaxTime+1) {
				got, err := erase.Make(sample(), path, id, by)
				if !equalOrder(got, api.Order{Id: id, By: by, Nodes: want[0], Chunks: want[1]}) || err != api.OK {
					t.Errorf("%q, %d, %d: %v, %v", path, id, by, got, err)
				}
			}
		}
	}
	s := files(body(hole(3), gone(2), hole(1)))
	if got, err := erase.Make(s, "a", 7, 100); !equalOrder(got, api.Order{Id: 7, By: 100, Nodes: ints(2)}) || err != api.OK {
		t.Errorf("bytes of no chunks: %v, %v", got, err)
	}
}

// P13.1, P13.2, P13.5 (M1, M6): as many files as a tree has, whose names are in another order than their numbers, with chunks in another order.
func TestManyFiles(t *testing.T) {
	many := tree.New(0)
	many.Next = 4 * api.MaxNodes
	var ids, chunks []int
	for i := range api.MaxNodes - 1 {
		id := 4*i + 3
		many.Nodes = append(many.Nodes, api.Node{Id: id, Kind: api.File, Links: 1, Body: body(of(4095-i, 0, 1), of(16*i+15, 0, 1))})
		last := 254 - i
		many.Nodes[0].List = append(many.Nodes[0].List, api.Entry{Name: string([]byte{'a' + byte(i/16), 'a' + byte(i%16)}), Id: 4*last + 3})
		ids, chunks = append(ids, id), append(chunks, 4095-i, 16*i+15)
	}
	slices.Sort(chunks)
	got, err := erase.Make(many, "", 7, 100)
	if !tree.Valid(many) || !equalOrder(got, api.Order{Id: 7, By: 100, Nodes: ids, Chunks: slices.Compact(chunks)}) || err != api.OK {
		t.Errorf("%v, %v", got, err)
	}
}

// P13.2, P13.5, P13.7 (M1, M6): files along ways of operations: those that a path at or below leads to, and after stripping none of them has a byte of a chunk left.
func TestFilesSome(t *testing.T) {
	var lacking, empty, made int
	walks(t, 1, func(g *rand.Rand, s api.Tree) {
		path := pick(g, []string{somePath(g, s, 1), somePath(g, s, 1), somePath(g, s, 2), newPath(g, s)})
		ids, err := erase.Files(s, path)
		got, madeErr := erase.Make(s, path, 7, 100)
		if _, want := tree.Find(s, path); want != api.OK {
			if len(ids) > 0 || err != want || !isZero(got) || madeErr != want {
				t.Fatalf("%q of %v: %v, %v, %v, %v", path, s, ids, err, got, madeErr)
			}
			lacking++
			return
		}
		want := filesAt(s, path)
		if !slices.Equal(ids, want) || err != api.OK {
			t.Fatalf("%q of %v: %v, %v, not %v", path, s, ids, err, want)
		}
		if len(want) == 0 {
			if !isZero(got) || madeErr != api.ErrNone {
				t.Fatalf("%q of %v: %v, %v", path, s, got, madeErr)
			}
			empty++
			return
		}
		if !equalOrder(got, api.Order{Id: 7, By: 100, Nodes: want, Chunks: usedBy(s, want)}) || madeErr != api.OK {
			t.Fatalf("%q of %v: %v, %v", path, s, got, madeErr)
		}
		after := erase.Strip(s, got.Chunks)
		for _, id := range want {
			if slices.ContainsFunc(fileBytes(after, id), func(x byteOf) bool { return x.chunk > 0 }) {
				t.Fatalf("%q of %v: the file %d has bytes left", path, s, id)
			}
		}
		made++
	})
	if lacking < 300 || empty < 300 || made < 1500 {
		t.Errorf("%d paths led to nothing, %d to no files, and %d orders were made", lacking, empty, made)
	}
}

// P13.1, P13.2 (M1): what a path leads to does not depend on rights: a person 0 may enter everything.
func TestFilesWithoutRights(t *testing.T) {
	s := sample()
	for i := range s.Nodes {
		s.Nodes[i].Acl = []api.Ace{{Who: api.Everyone, Allow: false, Rights: 15, Reach: api.Here}}
	}
	for _, path := range []string{"", "a", "a/f", "k/u"} {
		if got, err := erase.Files(s, path); !slices.Equal(got, filesAt(s, path)) || err != api.OK {
			t.Errorf("%q: %v, %v", path, got, err)
		}
	}
	if got, err := erase.Make(s, "a/f", math.MaxInt, math.MinInt); !equalOrder(got, api.Order{Id: math.MaxInt, By: math.MinInt, Nodes: ints(3), Chunks: ints(7)}) || err != api.OK {
		t.Errorf("Make: %v, %v", got, err)
	}
}

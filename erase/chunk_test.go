package erase_test

import (
	"math/rand"
	"slices"
	"testing"

	"burgage/api"
	"burgage/erase"
	"burgage/tree"
)

// P13.1 (M2): numbers of files, of directories, of nothing, in any order, and twice; files without bytes, without entries, and with bytes of no chunk.
func TestChunks(t *testing.T) {
	for _, e := range []struct{ ids, want []int }{
		{nil, nil},
		{ints(3), ints(7)},
		{ints(4), ints(8)},
		{ints(6), ints(7)},
		{ints(10), ints(7, 9)},
		{ints(12), nil},
		{ints(13), ints(7, 8, 4095)},
		{ints(3, 11), ints(7)},
		{ints(4, 3), ints(7, 8)},
		{ints(13, 10, 4), ints(7, 8, 9, 4095)},
		{ints(3, 3), ints(7)},
		{ints(13, 3, 13), ints(7, 8, 4095)},
		{ints(1, 2, 5, 7, 8, 9), nil},
		{ints(2, 4), ints(8)},
		{ints(0, 14, 29, 30, 99), nil},
		{ints(99, 4, 0), ints(8)},
		{odd, nil},
		{append(slices.Clone(odd), 12, 11), ints(7)},
		{ints(1, 2, 3, 4, 5, 6, 7, 8, 9, 10, 11, 12, 13), ints(7, 8, 9, 4095)},
	} {
		if got := erase.Chunks(sample(), e.ids); !slices.Equal(got, e.want) {
			t.Errorf("%v: %v, not %v", e.ids, got, e.want)
		}
	}
	s := files(body(hole(3)), body(gone(1)), body(hole(1), gone(1), of(1, most-1, 1), of(4095, 0, 1), of(1, 0, 1)))
	for _, e := range []struct{ ids, want []int }{{ints(2, 3), nil}, {ints(4), ints(1, 4095)}} {
		if got := erase.Chunks(s, e.ids); !slices.Equal(got, e.want) {
			t.Errorf("%v: %v, not %v", e.ids, got, e.want)
		}
	}
}

// allChunks returns a body that has bytes of all chunks, the last one first.
func allChunks() []api.Piece {
	var b []api.Piece
	for chunk := api.MaxChunks - 1; chunk >= 1; chunk-- {
		b = append(b, of(chunk, chunk, 2))
	}
	return b
}

// P13.1 (M2, M5): as many chunks as there are.
func TestManyChunks(t *testing.T) {
	s := files(nil, allChunks())
	if !tree.Valid(s) {
		t.Fatal("the tree is not valid")
	}
	got := erase.Chunks(s, ints(2, 3))
	if len(got) != api.MaxChunks-1 || !slices.IsSorted(got) || got[0] != 1 || got[len(got)-1] != api.MaxChunks-1 {
		t.Errorf("%d chunks", len(got))
	}
	for chunk := range api.MaxChunks + 10 {
		if is := erase.Clean(s, ints(chunk)); is != (chunk == 0 || chunk >= api.MaxChunks) {
			t.Errorf("Clean of %d: %v", chunk, is)
		}
	}
}

// P13.1 (M2): chunks that are found byte by byte, along ways of operations.
func TestChunksSome(t *testing.T) {
	found := map[int]int{}
	walks(t, 11, func(g *rand.Rand, s api.Tree) {
		for range 3 {
			ids := someNumbers(g, 6)
			got, want := erase.Chunks(s, ids), usedBy(s, ids)
			if !slices.Equal(got, want) {
				t.Fatalf("%v of %v: %v, not %v", ids, s, got, want)
			}
			found[len(got)]++
		}
		if got := erase.Chunks(s, numbers(s)); !slices.Equal(got, tree.Used(s)) {
			t.Fatalf("all of %v: %v", s, got)
		}
	})
	for n := range 4 {
		if found[n] < 200 {
			t.Errorf("how many were found: %v", found)
		}
	}
}

// P13.1 (M5): chunks of files, of a file without entries, of none, several, in any order, twice, and numbers of no chunks.
func TestClean(t *testing.T) {
	for _, e := range []struct {
		chunks []int
		want   bool
	}{
		{nil, true},
		{ints(7), false},
		{ints(8), false},
		{ints(9), false},
		{ints(4095), false},
		{ints(1), true},
		{ints(6), true},
		{ints(10), true},
		{ints(4094), true},
		{ints(6, 5, 4094, 1), true},
		{ints(6, 5, 9, 1), false},
		{ints(9, 5), false},
		{ints(5, 9), false},
		{ints(9, 9), false},
		{ints(5, 5), true},
		{ints(7, 8, 9, 4095), false},
		{ints(0), true},
		{ints(-1), true},
		{ints(0, -1, 4096, 5000), true},
		{ints(4096, 4095), false},
		{odd, true},
		{append(slices.Clone(odd), 8), false},
	} {
		if got := erase.Clean(sample(), e.chunks); got != e.want {
			t.Errorf("%v: %v", e.chunks, got)
		}
	}
	// Neither holes nor erased bytes are those of a chunk.
	if s := files(body(hole(3), gone(2)), nil); !erase.Clean(s, ints(-1, 0, 1)) {
		t.Error("holes are not clean")
	}
	if !erase.Clean(tree.New(0), ints(1, 2, 3)) {
		t.Error("a new tree is not clean")
	}
}

// P13.1, P13.3 (M5): a tree is clean of some chunks exactly if none of its bytes is one of theirs.
func TestCleanSome(t *testing.T) {
	counts := map[bool]int{}
	walks(t, 12, func(g *rand.Rand, s api.Tree) {
		used := usedBy(s, numbers(s))
		for range 3 {
			chunks := someChunks(g, 5)
			want := !slices.ContainsFunc(chunks, func(chunk int) bool { return slices.Contains(used, chunk) })
			if got := erase.Clean(s, chunks); got != want {
				t.Fatalf("%v of %v: %v", chunks, s, got)
			}
			counts[want]++
		}
	})
	if counts[true] < 1000 || counts[false] < 1000 {
		t.Errorf("clean or not: %v", counts)
	}
}

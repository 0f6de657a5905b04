package erase_test

import (
	"math/rand"
	"slices"
	"testing"

	"burgage/api"
	"burgage/erase"
	"burgage/extent"
	"burgage/tree"
)

// with returns the sample with other bodies.
func with(bodies map[int][]api.Piece) api.Tree {
	s := sample()
	for i, n := range s.Nodes {
		if b, is := bodies[n.Id]; is {
			s.Nodes[i].Body = b
		}
	}
	return s
}

// P13.1, P13.3 (M4): a chunk that no file has, that several have, that is all of a body, a part of it, or stands in it twice; a body that has erased bytes already; lists in any order, and with numbers of no chunks. All else stays.
func TestStrip(t *testing.T) {
	seven := map[int][]api.Piece{
		3:  body(gone(10)),
		6:  body(gone(5)),
		10: body(of(9, 0, 4), gone(1)),
		11: body(gone(3)),
		13: body(gone(2), of(8, 4, 3), hole(1), gone(2), of(4095, most-1, 1)),
	}
	eight := map[int][]api.Piece{
		4:  body(hole(3), gone(2)),
		13: body(of(7, 0, 2), gone(3), hole(1), of(7, 20, 2), of(4095, most-1, 1)),
	}
	both := map[int][]api.Piece{
		3:  body(gone(10)),
		4:  body(hole(3), gone(2)),
		6:  body(gone(5)),
		10: body(of(9, 0, 4), gone(1)),
		11: body(gone(3)),
		13: body(gone(5), hole(1), gone(2), of(4095, most-1, 1)),
	}
	last := map[int][]api.Piece{
		10: body(gone(4), of(7, 0, 1)),
		13: body(of(7, 0, 2), of(8, 4, 3), hole(1), of(7, 20, 2), gone(1)),
	}
	for _, e := range []struct {
		chunks []int
		want   map[int][]api.Piece
	}{
		{nil, nil},
		{ints(6), nil},
		{ints(1, 4094, 10), nil},
		{ints(0), nil},
		{ints(-1), nil},
		{ints(4096, 5000), nil},
		{odd, nil},
		{ints(7), seven},
		{ints(7, 7), seven},
		{ints(0, 6, 7, -1), seven},
		{append(slices.Clone(odd), 7), seven},
		{ints(8), eight},
		{ints(7, 8), both},
		{ints(8, 7), both},
		{ints(8, 4096, 7, 8), both},
		{ints(4095, 9), last},
		{ints(9), map[int][]api.Piece{10: body(gone(4), of(7, 0, 1))}},
		{ints(9, 8, 7, 4095), map[int][]api.Piece{3: body(gone(10)), 4: body(hole(3), gone(2)), 6: body(gone(5)), 10: body(gone(5)), 11: body(gone(3)), 13: body(gone(5), hole(1), gone(3))}},
	} {
		got := erase.Strip(sample(), e.chunks)
		if !equalTrees(got, with(e.want)) || !tree.Valid(got) {
			t.Errorf("%v: %v", e.chunks, got)
		}
	}
	if got := erase.Strip(tree.New(5), ints(1)); !equalTrees(got, tree.New(5)) {
		t.Errorf("a new tree: %v", got)
	}
}

// P13.3 (M4): the greatest and the least pieces, and as many chunks as there are.
func TestStripLimits(t *testing.T) {
	s := files(body(of(4095, 0, most)), body(of(1, most-1, 1)), body(gone(most)), body(hole(most)), allChunks(), body(of(1, 0, most/2), gone(most/2)))
	want := files(body(gone(most)), body(gone(1)), body(gone(most)), body(hole(most)), body(gone(2*(api.MaxChunks-1))), body(gone(most)))
	var chunks []int
	for chunk := range api.MaxChunks + 1 {
		chunks = append(chunks, chunk)
	}
	if got := erase.Strip(s, chunks); !tree.Valid(s) || !equalTrees(got, want) {
		t.Errorf("all chunks: %v", got)
	}
	if got := erase.Strip(s, ints(1)); !slices.Equal(got.Nodes[5].Body[:4094], s.Nodes[5].Body[:4094]) || got.Nodes[5].Body[4094] != gone(2) || !slices.Equal(got.Nodes[6].Body, body(gone(most))) || !slices.Equal(got.Nodes[1].Body, s.Nodes[1].Body) {
		t.Errorf("the first chunk: %v", got.Nodes[6])
	}
}

// P13.3 (M4, M5): trees along ways of operations: what is stripped is valid and clean; sizes, names, and all bytes of other chunks stay; and stripping again changes nothing.
func TestStripSome(t *testing.T) {
	counts := map[bool]int{}
	walks(t, 21, func(g *rand.Rand, s api.Tree) {
		chunks := someChunks(g, 6)
		got := erase.Strip(s, chunks)
		if !equalTrees(got, without(s, chunks)) || !tree.Valid(got) || !erase.Clean(got, chunks) {
			t.Fatalf("%v without %v: %v", s, chunks, got)
		}
		for i, n := range s.Nodes {
			m := got.Nodes[i]
			if extent.Size(m.Body) != extent.Size(n.Body) || !slices.Equal(tree.Paths(got, m.Id), tree.Paths(s, n.Id)) || !slices.Equal(m.Body, extent.Erase(n.Body, chunks)) {
				t.Fatalf("%v without %v: %v", n, chunks, m)
			}
			now := bytesOf(m.Body)
			for j, x := range bytesOf(n.Body) {
				if erased := x.chunk > 0 && slices.Contains(chunks, x.chunk); erased != (now[j] != x) || erased && now[j] != (byteOf{api.Gone, 0}) {
					t.Fatalf("%v without %v: %v", n, chunks, m)
				}
			}
		}
		if again := erase.Strip(got, chunks); !equalTrees(again, got) {
			t.Fatalf("%v without %v, again: %v", s, chunks, again)
		}
		is := erase.Clean(s, chunks)
		if is != equalTrees(got, s) {
			t.Fatalf("%v without %v: %v", s, chunks, got)
		}
		counts[is]++
	})
	if counts[true] < 1000 || counts[false] < 1000 {
		t.Errorf("clean before or not: %v", counts)
	}
}

// P13.3 (M4): one list at a time, or all at once, in any order, comes to the same.
func TestStripInParts(t *testing.T) {
	changed := 0
	walks(t, 22, func(g *rand.Rand, s api.Tree) {
		a, b := someChunks(g, 4), someChunks(g, 4)
		all := erase.Strip(s, slices.Concat(a, b))
		if !equalTrees(erase.Strip(erase.Strip(s, a), b), all) || !equalTrees(erase.Strip(erase.Strip(s, b), a), all) {
			t.Fatalf("%v without %v and %v", s, a, b)
		}
		if !equalTrees(all, s) {
			changed++
		}
	})
	if changed < 1000 {
		t.Errorf("only %d trees were changed", changed)
	}
}

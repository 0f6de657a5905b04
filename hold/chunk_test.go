package hold_test

import (
	"math/rand"
	"slices"
	"testing"

	"burgage/api"
	"burgage/hold"
	"burgage/tree"
)

// P12.1, P12.7 (L6): one hold that binds files of the sample.
func TestChunks(t *testing.T) {
	for _, e := range []struct {
		h    []int
		want []int
	}{
		{nil, nil},
		{[]int{3, 0}, nil},
		{[]int{3, 1}, []int{7}},
		{[]int{3, 10}, []int{7}},
		{[]int{3, most}, []int{7}},
		// A chunk that stands behind a hole, at the last byte that is held, and behind it.
		{[]int{4, 3}, nil},
		{[]int{4, 4}, []int{8}},
		{[]int{4, 5}, []int{8}},
		{[]int{6, 2}, []int{7}},
		{[]int{6, 3}, []int{7}},
		// A chunk that a file has twice, before the last byte that is held and behind it.
		{[]int{13, 0}, nil},
		{[]int{13, 1}, []int{7}},
		{[]int{13, 2}, []int{7}},
		{[]int{13, 3}, []int{7, 8}},
		{[]int{13, 6}, []int{7, 8}},
		{[]int{13, 7}, []int{7, 8}},
		{[]int{13, 8}, []int{7, 8}},
		{[]int{13, 9}, []int{7, 8, 4095}},
		{[]int{13, 10}, []int{7, 8, 4095}},
		// Several files, that have a chunk in common.
		{[]int{3, 10, 11, 3}, []int{7}},
		{[]int{3, 10, 4, 5, 11, 3, 13, 3}, []int{7, 8}},
		{[]int{3, 0, 4, 5, 11, 0}, []int{8}},
		// Files without bytes, without entries, directories, and what is not there.
		{[]int{12, 9}, nil},
		{[]int{10, 4}, nil},
		{[]int{10, 4, 11, 1}, []int{7}},
		{[]int{1, 9, 2, 9, 8, 9}, nil},
		{[]int{5, 9, 7, 9, 99, 9}, nil},
		{[]int{1, 9, 4, 5, 5, 9, 10, 9}, []int{8}},
	} {
		var want []api.Clash
		for _, c := range e.want {
			want = append(want, api.Clash{Chunk: c, Hold: 5})
		}
		if got := hold.Chunks(sample(), orders(order(5, 11, e.h...)), 10); !slices.Equal(got, want) {
			t.Errorf("%v: %v", e.h, got)
		}
		for _, now := range []int{11, 12} {
			if got := hold.Chunks(sample(), orders(order(5, 11, e.h...)), now); len(got) > 0 {
				t.Errorf("%v at %d: %v", e.h, now, got)
			}
		}
	}
}

// P12.1, P12.5, P12.7 (L6): several holds: first by the chunk, then by the hold, each once; without those that are over.
func TestChunksOfSeveral(t *testing.T) {
	all := order(1, 0, 3, 10, 4, 5, 13, 9)
	with := func(id, until int, h api.Hold) api.Hold {
		h.Id, h.Until = id, until
		return h
	}
	for _, e := range []struct {
		l    []api.Hold
		want []api.Clash
	}{
		{nil, nil},
		{orders(with(2, 11, all)), clashes(7, 2, 8, 2, 4095, 2)},
		{orders(with(2, 11, all), with(3, 11, all)), clashes(7, 2, 7, 3, 8, 2, 8, 3, 4095, 2, 4095, 3)},
		{orders(with(2, 10, all), with(3, 11, all)), clashes(7, 3, 8, 3, 4095, 3)},
		{orders(with(2, 11, all), with(3, 10, all)), clashes(7, 2, 8, 2, 4095, 2)},
		{orders(with(2, 9, all), with(3, 10, all)), nil},
		{orders(order(2, 11, 4, 5), order(9, 11, 3, 1), order(10, 99, 11, 3, 13, 7), order(1000, 12, 3, 1, 4, 3)), clashes(7, 9, 7, 10, 7, 1000, 8, 2, 8, 10)},
		{orders(order(2, 11), order(9, 11, 13, 9), order(10, 99, 10, 9), order(11, 10, 3, 9), order(12, 11, 4, 9)), clashes(7, 9, 8, 9, 8, 12, 4095, 9)},
		{orders(order(1<<40, 11, 13, 3), order(1<<62, 11, 13, 3)), clashes(7, 1<<40, 7, 1<<62, 8, 1<<40, 8, 1<<62)},
	} {
		if got := hold.Chunks(sample(), e.l, 10); !slices.Equal(got, e.want) {
			t.Errorf("%v: %v, not %v", e.l, got, e.want)
		}
	}
}

// P12.7 (L6): as many chunks as there are, with as many holds as there may be.
func TestChunksOfMany(t *testing.T) {
	var b []api.Piece
	for chunk := api.MaxChunks - 1; chunk >= 1; chunk-- {
		b = append(b, of(chunk, chunk, 2))
	}
	s := files(b, nil, body(of(1, 0, 1)))
	var l []api.Hold
	for i := range 16 {
		l = append(l, order(i+1, 11+i, 2, 2*i*256, 3, 9, 4, i%2))
	}
	var want []api.Clash
	for chunk := 1; chunk < api.MaxChunks; chunk++ {
		for i := range 16 {
			if chunk >= api.MaxChunks-i*256 || chunk == 1 && i%2 == 1 {
				want = append(want, api.Clash{Chunk: chunk, Hold: i + 1})
			}
		}
	}
	if got := hold.Chunks(s, l, 10); !tree.Valid(s) || !slices.Equal(got, want) {
		t.Errorf("%d clashes, not %d", len(got), len(want))
	}
}

// P12.5, P12.7 (L6): chunks that are found byte by byte, along ways of operations.
func TestChunksSome(t *testing.T) {
	found := map[int]int{}
	walks(t, 41, func(g *rand.Rand, _, s api.Tree, _ api.Op, _ api.Errno) {
		for range 4 {
			l, now := someHolds(g, s, 100), 98+g.Intn(6)
			got, want := hold.Chunks(s, l, now), chunks(s, l, now)
			if !slices.Equal(got, want) {
				t.Fatalf("%v, %v at %d: %v, not %v", s, l, now, got, want)
			}
			found[min(len(got), 4)]++
		}
	})
	for n := range 5 {
		if found[n] < 300 {
			t.Errorf("how many were found: %v", found)
		}
	}
}

// P12.7 (L5, L6): an order is in the way of a chunk exactly if it does not keep what it holds once the chunk is erased.
func TestChunksErased(t *testing.T) {
	counts := map[bool]int{}
	walks(t, 42, func(g *rand.Rand, _, s api.Tree, _ api.Op, _ api.Errno) {
		l := hold.Live(someHolds(g, s, 100), 100)
		for _, chunk := range []int{3, 6, 7, 8, 9, 4095} {
			erased := copyOf(s)
			for i := range erased.Nodes {
				for j, p := range erased.Nodes[i].Body {
					if p.Id == chunk {
						erased.Nodes[i].Body[j] = gone(p.N)
					}
				}
				erased.Nodes[i].Body = joined(erased.Nodes[i].Body)
			}
			for _, h := range l {
				is := slices.Contains(hold.Chunks(s, l, 100), api.Clash{Chunk: chunk, Hold: h.Id})
				if is == hold.Kept(s, erased, orders(h), 100) {
					t.Fatalf("%v, %v without %d: %v", s, h, chunk, is)
				}
				counts[is]++
			}
		}
	})
	if counts[true] < 1000 || counts[false] < 1000 {
		t.Errorf("in the way or not: %v", counts)
	}
}

// joined returns the body in which erased pieces that follow each other are one.
func joined(b []api.Piece) []api.Piece {
	var l []api.Piece
	for _, p := range b {
		if i := len(l) - 1; i >= 0 && p.Id == api.Gone && l[i].Id == api.Gone {
			l[i].N += p.N
		} else {
			l = append(l, p)
		}
	}
	return l
}

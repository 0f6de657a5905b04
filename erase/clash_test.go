package erase_test

import (
	"math"
	"math/rand"
	"slices"
	"testing"

	"burgage/api"
	"burgage/erase"
	"burgage/tree"
)

// every lists all chunks of the sample, and more, in no order.
func every() []int { return ints(4095, 8, 1, 7, 9, 0, 8) }

// P13.1 (M3): one hold that binds none, some, all or more bytes of files of the sample.
func TestClashes(t *testing.T) {
	for _, e := range []struct{ h, want []int }{
		{nil, nil},
		{ints(3, 0), nil},
		{ints(3, -1), nil},
		{ints(3, math.MinInt), nil},
		// The chunk stands on both sides of the last bound byte.
		{ints(3, 1), ints(7)},
		{ints(3, 9), ints(7)},
		{ints(3, 10), ints(7)},
		{ints(3, 11), ints(7)},
		{ints(3, most), ints(7)},
		{ints(3, math.MaxInt), ints(7)},
		// It stands behind a hole, or behind bytes that are erased.
		{ints(4, 1), nil},
		{ints(4, 3), nil},
		{ints(4, 4), ints(8)},
		{ints(4, 5), ints(8)},
		{ints(4, 6), ints(8)},
		{ints(6, 2), nil},
		{ints(6, 3), ints(7)},
		{ints(6, 5), ints(7)},
		{ints(6, math.MaxInt), ints(7)},
		// It stands in a file twice.
		{ints(13, 0), nil},
		{ints(13, 2), ints(7)},
		{ints(13, 3), ints(7, 8)},
		{ints(13, 7), ints(7, 8)},
		{ints(13, 8), ints(7, 8)},
		{ints(13, 9), ints(7, 8, 4095)},
		{ints(13, 10), ints(7, 8, 4095)},
		// A file without entries is a file.
		{ints(10, 4), ints(9)},
		{ints(10, 5), ints(7, 9)},
		// Several files.
		{ints(3, 10, 11, 3), ints(7)},
		{ints(11, 3, 4, 4), ints(7, 8)},
		{ints(3, 0, 4, 5, 11, -5), ints(8)},
		// A file that is bound twice is bound with both.
		{ints(13, 3, 13, 2), ints(7, 8)},
		{ints(13, 2, 13, 3), ints(7, 8)},
		{ints(13, 2, 13, -1), ints(7)},
		{ints(4, 4, 13, 2, 4, 0), ints(7, 8)},
		// Files without bytes, directories, and what is not there.
		{ints(12, 9), nil},
		{ints(1, 9, 2, 9, 8, 9), nil},
		{ints(0, 9, -1, 9, 14, 9, 99, 9, math.MaxInt, 9, math.MinInt, 9), nil},
		{ints(99, 9, 4, 5, 0, 9), ints(8)},
	} {
		var want []api.Clash
		for _, chunk := range e.want {
			want = append(want, api.Clash{Chunk: chunk, Hold: 5})
		}
		if got := erase.Clashes(trees(sample()), orders(order(5, 11, e.h...)), every(), 10); !slices.Equal(got, want) {
			t.Errorf("%v: %v", e.h, got)
		}
	}
}

// P13.1, P13.6 (M3): dates less than, equal to, and greater than by.
func TestClashesDates(t *testing.T) {
	numbers := append(slices.Clone(odd), 0, 1, 9, 10, 11, api.MaxTime-1, api.MaxTime)
	for _, until := range numbers {
		for _, by := range numbers {
			var want []api.Clash
			if until > by {
				want = clashes(7, 5)
			}
			if got := erase.Clashes(trees(sample()), orders(order(5, until, 3, 1)), ints(7), by); !slices.Equal(got, want) {
				t.Errorf("until %d, by %d: %v", until, by, got)
			}
		}
	}
}

// P13.1 (M3): lists of chunks that are empty, not in order, that have a number twice, and numbers of no chunks.
func TestClashesChunks(t *testing.T) {
	l := orders(order(5, 11, 3, 10, 13, 9, 10, 4))
	for _, e := range []struct{ chunks, want []int }{
		{nil, nil},
		{ints(7), ints(7, 5)},
		{ints(7, 7), ints(7, 5)},
		{ints(8, 7), ints(7, 5, 8, 5)},
		{ints(9, 8, 7), ints(7, 5, 8, 5, 9, 5)},
		{ints(8, 9, 8, 7, 9), ints(7, 5, 8, 5, 9, 5)},
		{ints(6), nil},
		{ints(1, 2, 3, 4, 5, 6, 10), nil},
		{ints(6, 4095, 10), ints(4095, 5)},
		{ints(4096, 4095, 4094), ints(4095, 5)},
		{ints(0), nil},
		{ints(-1), nil},
		{ints(0, -1, 4096), nil},
		{odd, nil},
		{append(slices.Clone(odd), 9, 8), ints(8, 5, 9, 5)},
	} {
		if got := erase.Clashes(trees(sample()), l, e.chunks, 10); !slices.Equal(got, clashes(e.want...)) {
			t.Errorf("%v: %v", e.chunks, got)
		}
	}
	// Neither holes nor erased bytes are those of a chunk.
	s := files(body(hole(3), gone(2)))
	if got := erase.Clashes(trees(s), orders(order(5, 11, 2, 5)), ints(-1, 0, 1), 10); len(got) > 0 {
		t.Errorf("holes: %v", got)
	}
}

// P13.1 (M3): no trees, two of which one has the chunk, the same tree twice, and trees whose files with one number differ.
func TestClashesTrees(t *testing.T) {
	seven, eight, none := files(body(of(7, 0, 2))), files(body(hole(1), of(8, 0, 2))), files(nil)
	h := orders(order(5, 11, 2, 2))
	for _, e := range []struct {
		trees []api.Tree
		want  []int
	}{
		{nil, nil},
		{trees(none), nil},
		{trees(tree.New(0)), nil},
		{trees(seven), ints(7, 5)},
		{trees(seven, seven), ints(7, 5)},
		{trees(seven, none), ints(7, 5)},
		{trees(none, seven), ints(7, 5)},
		{trees(none, seven, none), ints(7, 5)},
		{trees(tree.New(0), seven), ints(7, 5)},
		{trees(seven, eight), ints(7, 5, 8, 5)},
		{trees(eight, seven), ints(7, 5, 8, 5)},
		{trees(eight, none, seven, eight), ints(7, 5, 8, 5)},
		{trees(none, none), nil},
		// There the file has another number.
		{trees(files(nil, body(of(7, 0, 2)))), nil},
	} {
		if got := erase.Clashes(e.trees, h, ints(8, 7), 10); !slices.Equal(got, clashes(e.want...)) {
			t.Errorf("%v: %v", e.trees, got)
		}
	}
	if got := erase.Clashes(trees(eight, files(body(of(8, 0, 1)))), orders(order(5, 11, 2, 1)), ints(8), 10); !slices.Equal(got, clashes(8, 5)) {
		t.Errorf("the chunk is behind the bound byte in the first tree: %v", got)
	}
}

// P13.1 (M3): no holds; several with one chunk, in their order, whatever their numbers are; some that are over; and a number twice.
func TestClashesHolds(t *testing.T) {
	for _, e := range []struct {
		l    []api.Hold
		want []int
	}{
		{nil, nil},
		{orders(order(2, 11, 3, 1), order(4, 11, 11, 1)), ints(7, 2, 7, 4)},
		{orders(order(4, 11, 3, 1), order(2, 11, 11, 1)), ints(7, 4, 7, 2)},
		{orders(order(4, 11, 13, 3), order(9, 11, 4, 4), order(2, 11, 11, 1)), ints(7, 4, 7, 2, 8, 4, 8, 9)},
		{orders(order(9, 11, 4, 4), order(4, 11, 13, 3), order(2, 11, 11, 1)), ints(7, 4, 7, 2, 8, 9, 8, 4)},
		{orders(order(2, 10, 3, 1), order(4, 11, 11, 1)), ints(7, 4)},
		{orders(order(2, 11, 3, 1), order(4, 9, 11, 1)), ints(7, 2)},
		{orders(order(2, 10, 3, 1), order(4, 9, 11, 1)), nil},
		{orders(order(2, 11), order(4, 11, 3, 0), order(6, 11, 3, 5)), ints(7, 6)},
		// The number of another hold: each clash once, where it comes first.
		{orders(order(2, 11, 3, 1), order(2, 12, 3, 1)), ints(7, 2)},
		{orders(order(2, 10, 3, 1), order(2, 11, 3, 1)), ints(7, 2)},
		{orders(order(2, 11, 4, 4), order(3, 11, 13, 3), order(2, 11, 3, 1)), ints(7, 3, 7, 2, 8, 2, 8, 3)},
		{orders(order(2, 11, 3, 1), order(1, 11, 3, 1), order(2, 11, 4, 4), order(1, 11, 3, 1)), ints(7, 2, 7, 1, 8, 2)},
		{orders(order(-3, 11, 3, 1), order(0, 11, 3, 1), order(math.MaxInt, 11, 3, 1), order(math.MinInt, 11, 3, 1)), ints(7, -3, 7, 0, 7, math.MaxInt, 7, math.MinInt)},
	} {
		if got := erase.Clashes(trees(sample()), e.l, every(), 10); !slices.Equal(got, clashes(e.want...)) {
			t.Errorf("%v: %v, not %v", e.l, got, e.want)
		}
	}
}

// P13.1 (M3): as many chunks as there are, with more holds than a list may have.
func TestClashesMany(t *testing.T) {
	s := files(allChunks(), nil, body(of(1, 0, 1)))
	var l []api.Hold
	for i := range 20 {
		l = append(l, order(100-i, 11+i, 2, 2*i*200, 3, 9, 4, i%2))
	}
	var chunks []int
	var want []api.Clash
	for chunk := api.MaxChunks + 5; chunk >= -5; chunk -= 3 {
		chunks = append(chunks, chunk, chunk)
	}
	for chunk := 1; chunk < api.MaxChunks; chunk++ {
		for i := range 20 {
			if (api.MaxChunks+5-chunk)%3 == 0 && (chunk >= api.MaxChunks-i*200 || chunk == 1 && i%2 == 1) {
				want = append(want, api.Clash{Chunk: chunk, Hold: 100 - i})
			}
		}
	}
	if got := erase.Clashes(trees(tree.New(0), s, s), l, chunks, 10); !tree.Valid(s) || !slices.Equal(got, want) {
		t.Errorf("%d clashes, not %d", len(got), len(want))
	}
}

// P13.1, P13.4 (M3): clashes that are found byte by byte, for trees of ways of operations, and a tree from before.
func TestClashesSome(t *testing.T) {
	found := map[int]int{}
	before := tree.New(0)
	walks(t, 31, func(g *rand.Rand, s api.Tree) {
		for range 3 {
			l := pick(g, [][]api.Tree{nil, trees(s), trees(s, before), trees(before, s), trees(sample(), s, s)})
			holds, chunks, by := someHolds(g, s, 100), someChunks(g, 8), 99+g.Intn(4)
			got, want := erase.Clashes(l, holds, chunks, by), clashesOf(l, holds, chunks, by)
			if !slices.Equal(got, want) {
				t.Fatalf("%v, %v, %v by %d: %v, not %v", l, holds, chunks, by, got, want)
			}
			found[min(len(got), 4)]++
		}
		if g.Intn(5) == 0 {
			before = s
		}
	})
	for n := range 5 {
		if found[n] < 100 {
			t.Errorf("how many were found: %v", found)
		}
	}
}

// P13.4 (M3, M4): each clash tells of a byte of the chunk that the hold binds, and that stripping erases; a hold with a later end that is told of in none keeps all bytes that it binds.
func TestClashesTell(t *testing.T) {
	g := rand.New(rand.NewSource(32))
	var told, free int
	walks(t, 33, func(_ *rand.Rand, s api.Tree) {
		holds, chunks := someHolds(g, s, 100), someChunks(g, 5)
		for i := range holds {
			holds[i].Id = i + 1
		}
		got := erase.Clashes(trees(s), holds, chunks, 100)
		after := erase.Strip(s, chunks)
		for _, h := range holds {
			if h.Until <= 100 {
				continue
			}
			lost := map[int]bool{}
			for _, b := range h.Bind {
				now := firstBytes(after, b)
				for i, x := range firstBytes(s, b) {
					if now[i] != x {
						lost[x.chunk] = true
					}
				}
			}
			for chunk := range api.MaxChunks {
				is := slices.Contains(got, api.Clash{Chunk: chunk, Hold: h.Id})
				if is != lost[chunk] {
					t.Fatalf("%v, %v of %v: %d: %v", chunks, h, s, chunk, is)
				}
			}
			if len(lost) > 0 {
				told++
			} else {
				free++
			}
		}
	})
	if told < 500 || free < 1000 {
		t.Errorf("%d holds would lose bytes, %d none", told, free)
	}
}

// subset reports whether all clashes of a are in b.
func subset(a, b []api.Clash) bool {
	return !slices.ContainsFunc(a, func(x api.Clash) bool { return !slices.Contains(b, x) })
}

// P13.6 (M3): more trees, holds, chunks and bytes that are bound do not make clashes less, wherever they stand in their lists; a later time does not make them more.
func TestMore(t *testing.T) {
	g := rand.New(rand.NewSource(34))
	grown, shrunk := map[int]int{}, 0
	for range 8000 {
		q := someQuestion(g)
		got := erase.Clashes(q.trees, q.holds, q.chunks, q.by)
		h := orders(append(someHolds(g, q.t, 100), order(9, 102, 3, 5))...)[0]
		bound := slices.Clone(q.holds)
		if len(bound) > 0 {
			b := &bound[g.Intn(len(bound))]
			b.Bind = append(slices.Clone(b.Bind), api.Bind{Node: pick(g, ints(2, 3, 4, 13)), N: g.Intn(12)})
		}
		for i, more := range [][]api.Clash{
			erase.Clashes(slices.Insert(slices.Clone(q.trees), g.Intn(len(q.trees)+1), q.t), q.holds, q.chunks, q.by),
			erase.Clashes(q.trees, slices.Insert(slices.Clone(q.holds), g.Intn(len(q.holds)+1), h), q.chunks, q.by),
			erase.Clashes(q.trees, q.holds, slices.Insert(slices.Clone(q.chunks), g.Intn(len(q.chunks)+1), 7), q.by),
			erase.Clashes(q.trees, bound, q.chunks, q.by),
		} {
			if !subset(got, more) {
				t.Fatalf("%v: %v, and with more %v", q, got, more)
			}
			if len(more) > len(got) {
				grown[i]++
			}
		}
		later := erase.Clashes(q.trees, q.holds, q.chunks, q.by+1)
		if !subset(later, got) || len(erase.Clashes(q.trees, q.holds, q.chunks, math.MaxInt)) > 0 {
			t.Fatalf("%v: %v, and later %v", q, got, later)
		}
		if len(later) < len(got) {
			shrunk++
		}
	}
	for i := range 4 {
		if grown[i] < 50 {
			t.Errorf("there were more: %v", grown)
		}
	}
	if shrunk < 200 {
		t.Errorf("later there were less %d times", shrunk)
	}
}

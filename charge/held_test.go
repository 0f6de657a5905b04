package charge_test

import (
	"math/rand"
	"slices"
	"testing"

	"burgage/api"
	"burgage/charge"
	"burgage/tree"
)

// byteOf is a byte of a chunk.
type byteOf struct{ chunk, index int }

// byteSet returns the bytes of chunks that bodies of a tree have, one by one.
func byteSet(t api.Tree) map[byteOf]bool {
	set := map[byteOf]bool{}
	for _, n := range t.Nodes {
		for _, p := range n.Body {
			for i := range p.N {
				if p.Id >= 1 {
					set[byteOf{p.Id, p.From + i}] = true
				}
			}
		}
	}
	return set
}

// held counts bytes one by one.
func held(t api.Tree, l []api.Snap) []int {
	seen := map[byteOf]bool{}
	var counts []int
	for i := range len(l) + 1 {
		if i > 0 {
			t = l[i-1].Tree
		}
		before := len(seen)
		for b := range byteSet(t) {
			seen[b] = true
		}
		counts = append(counts, len(seen)-before)
	}
	return counts
}

// P10.1, P10.6 (J7): bodies of one file each, first that of the tree itself, and then those of its snapshots.
func TestHeld(t *testing.T) {
	ten := body(of(7, 10, 10))
	for _, e := range []struct {
		bodies [][]api.Piece
		want   []int
	}{
		{[][]api.Piece{nil}, []int{0}},
		{[][]api.Piece{ten}, []int{10}},
		{[][]api.Piece{nil, ten}, []int{0, 10}},
		{[][]api.Piece{ten, nil}, []int{10, 0}},
		{[][]api.Piece{ten, nil, ten}, []int{10, 0, 0}},
		{[][]api.Piece{ten, ten}, []int{10, 0}},
		{[][]api.Piece{ten, ten, ten}, []int{10, 0, 0}},
		// Holes and erased bytes are of no chunk.
		{[][]api.Piece{body(hole(5)), body(gone(5)), body(hole(3), gone(3))}, []int{0, 0, 0}},
		{[][]api.Piece{body(hole(5), of(7, 10, 5), gone(5)), ten}, []int{5, 5}},
		// One range inside the other, or with an end in common.
		{[][]api.Piece{ten, body(of(7, 13, 4))}, []int{10, 0}},
		{[][]api.Piece{body(of(7, 13, 4)), ten}, []int{4, 6}},
		{[][]api.Piece{ten, body(of(7, 10, 4))}, []int{10, 0}},
		{[][]api.Piece{body(of(7, 10, 4)), ten}, []int{4, 6}},
		{[][]api.Piece{ten, body(of(7, 16, 4))}, []int{10, 0}},
		{[][]api.Piece{body(of(7, 16, 4)), ten}, []int{4, 6}},
		// Ranges that overlap at one end, by one byte or more.
		{[][]api.Piece{ten, body(of(7, 5, 6))}, []int{10, 5}},
		{[][]api.Piece{ten, body(of(7, 19, 6))}, []int{10, 5}},
		{[][]api.Piece{ten, body(of(7, 15, 20))}, []int{10, 15}},
		{[][]api.Piece{ten, body(of(7, 0, 15))}, []int{10, 10}},
		// Ranges that touch, and such with a gap.
		{[][]api.Piece{ten, body(of(7, 5, 5))}, []int{10, 5}},
		{[][]api.Piece{ten, body(of(7, 20, 5))}, []int{10, 5}},
		{[][]api.Piece{ten, body(of(7, 4, 5))}, []int{10, 5}},
		{[][]api.Piece{ten, body(of(7, 21, 5))}, []int{10, 5}},
		{[][]api.Piece{ten, body(of(7, 20, 5)), body(of(7, 5, 30))}, []int{10, 5, 15}},
		// The same indices in other chunks.
		{[][]api.Piece{ten, body(of(8, 10, 10)), body(of(6, 10, 10)), body(of(4095, 10, 10)), body(of(1, 10, 10))}, []int{10, 10, 10, 10, 10}},
		// The last byte of a chunk, and the first one of the next.
		{[][]api.Piece{body(of(7, most-1, 1)), body(of(8, 0, 1)), body(of(7, most-2, 2)), body(of(8, 0, 2))}, []int{1, 1, 1, 1}},
		{[][]api.Piece{body(of(1, 0, most)), body(of(4095, 0, most)), body(of(4094, 1, most-1)), body(of(4094, 0, most))}, []int{most, most, most - 1, 1}},
		// Bytes that are several times in one body.
		{[][]api.Piece{body(of(7, 0, 4), of(7, 0, 4), hole(1), of(7, 2, 4)), body(of(7, 0, 7))}, []int{6, 1}},
		{[][]api.Piece{body(of(7, 5, 3), of(7, 0, 10), of(7, 2, 2), of(7, 9, 3)), nil}, []int{12, 0}},
		{[][]api.Piece{nil, body(of(7, 4, 2), of(7, 2, 2), of(7, 0, 2))}, []int{0, 6}},
		// Several ranges that are cut out of one, and the other way round.
		{[][]api.Piece{body(of(7, 8, 2), of(7, 4, 2), of(7, 0, 2)), body(of(7, 0, 10)), body(of(7, 0, 12))}, []int{6, 4, 2}},
		{[][]api.Piece{body(of(7, 8, 2), of(7, 4, 2)), body(of(7, 2, 10))}, []int{4, 6}},
		{[][]api.Piece{body(of(7, 0, 10)), body(of(7, 8, 4), of(7, 4, 2), of(7, 11, 3))}, []int{10, 4}},
		{[][]api.Piece{body(of(7, 2, 3), of(7, 8, 3)), body(of(7, 4, 5)), body(of(7, 0, 6), of(7, 10, 5))}, []int{6, 3, 6}},
		{[][]api.Piece{body(of(8, 0, 2), of(6, 0, 2)), body(of(9, 0, 4), of(8, 0, 4), of(7, 0, 4), of(6, 0, 4), of(5, 0, 4))}, []int{4, 16}},
	} {
		var l []api.Tree
		for _, b := range e.bodies {
			x := files(b)
			if !tree.Valid(x) {
				t.Fatalf("%v is not valid", b)
			}
			l = append(l, x)
		}
		if got := charge.Held(l[0], snaps(l[1:]...)); !slices.Equal(got, e.want) {
			t.Errorf("%v: %v, not %v", e.bodies, got, e.want)
		}
	}
}

// P10.1, P10.6 (J7): trees with several files, which have bytes in common, also when one has no entry.
func TestHeldBySeveralFiles(t *testing.T) {
	one, two := files(body(of(7, 0, 5)), body(of(7, 3, 5)), body(of(7, 7, 5), of(8, 0, 1))), files(body(of(8, 0, 3)), body(of(7, 11, 2)))
	for _, e := range []struct {
		t    api.Tree
		l    []api.Snap
		want []int
	}{
		{one, nil, []int{13}},
		{one, snaps(two), []int{13, 3}},
		{two, snaps(one), []int{5, 11}},
		{two, snaps(one, sample(), one), []int{5, 11, 4, 0}},
		{sample(), snaps(two, one), []int{17, 3, 0}},
		{sample(), snaps(one, two), []int{17, 1, 2}},
		{tree.New(0), snaps(tree.New(1), one), []int{0, 0, 13}},
	} {
		if got := charge.Held(e.t, e.l); !slices.Equal(got, e.want) {
			t.Errorf("%v, not %v", got, e.want)
		}
	}
	// The numbers and names of snapshots do not matter.
	if got := charge.Held(one, []api.Snap{{Id: 9, Name: "x", Tree: two}, {Id: 9, Tree: two}, {Id: -1, Tree: sample()}}); !slices.Equal(got, []int{13, 3, 0, 4}) {
		t.Errorf("other numbers: %v", got)
	}
}

// someFiles returns a tree with files whose bodies have pieces of few chunks.
func someFiles(g *rand.Rand) api.Tree {
	var bodies [][]api.Piece
	for range g.Intn(5) {
		var b []api.Piece
		for range g.Intn(5) {
			p := pick(g, []api.Piece{hole(2), gone(3), of(pick(g, []int{1, 7, 8, 4095}), g.Intn(20), 1+g.Intn(8)), of(7, most-1-g.Intn(5), 1), of(8, 0, 1+g.Intn(5))})
			if i := len(b) - 1; i < 0 || b[i].Id != p.Id || p.Id > 0 && b[i].From+b[i].N != p.From {
				b = append(b, p)
			}
		}
		bodies = append(bodies, b)
	}
	return files(bodies...)
}

// P10.6 (J7): trees in all kinds of orders; the numbers add up to that of all different bytes, and a tree that was there before holds nothing.
func TestHeldInAnyOrder(t *testing.T) {
	g := rand.New(rand.NewSource(31))
	for range 3000 {
		l := []api.Tree{someFiles(g), someFiles(g), someFiles(g), someFiles(g), tree.New(0)}[g.Intn(4):]
		if !tree.Valid(l[0]) {
			t.Fatalf("%v is not valid", l[0])
		}
		all := map[byteOf]bool{}
		for _, x := range l {
			for b := range byteSet(x) {
				all[b] = true
			}
		}
		l = append(l, pick(g, l))
		for range 3 {
			got := charge.Held(l[0], snaps(l[1:]...))
			if want := held(l[0], snaps(l[1:]...)); !slices.Equal(got, want) {
				t.Fatalf("%v: %v, not %v", l, got, want)
			}
			sum := 0
			for _, n := range got {
				sum += n
			}
			if sum != len(all) {
				t.Fatalf("%v: %v are not %d", l, got, len(all))
			}
			again := charge.Held(l[0], snaps(slices.Concat(l[1:], l)...))
			if !slices.Equal(again[:len(got)], got) || slices.Max(again[len(got):]) > 0 {
				t.Fatalf("%v: %v, and twice %v", l, got, again)
			}
			g.Shuffle(len(l), func(i, j int) { l[i], l[j] = l[j], l[i] })
		}
	}
}

// P10.6 (J7): snapshots of a tree that goes on.
func TestHeldAlongTheWay(t *testing.T) {
	var l []api.Snap
	walks(t, 32, func(before, after api.Tree, x api.Op, _ api.Errno) {
		if len(l) == api.MaxSnaps {
			l = l[1:]
		}
		l = append(l, api.Snap{Id: 1, Name: "s", Tree: before})
		got := charge.Held(after, l)
		if want := held(after, l); !slices.Equal(got, want) {
			t.Fatalf("after %v: %v, not %v", x, got, want)
		}
	})
}

// P10.6 (J7): many short pieces, in an order in which their ranges stay apart for long.
func TestHeldOfManyPieces(t *testing.T) {
	g := rand.New(rand.NewSource(33))
	var odd, all []api.Piece
	for _, i := range g.Perm(most / 2) {
		odd = append(odd, of(7, 2*i+1, 1))
	}
	for i := range most / 2 {
		all = append(all, of(7, most-2*i-2, 2))
	}
	if got := charge.Held(files(odd), snaps(files(all), files(odd), files(body(of(7, 0, most))))); !slices.Equal(got, []int{most / 2, most / 2, 0, 0}) {
		t.Errorf("%v", got)
	}
	if got := charge.Held(files(all), snaps(files(odd))); !slices.Equal(got, []int{most, 0}) {
		t.Errorf("%v", got)
	}
}

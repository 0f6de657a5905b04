package hold_test

import (
	"math/rand"
	"slices"
	"testing"

	"burgage/api"
	"burgage/hold"
	"burgage/tree"
)

// changed returns the sample in which a file has another body.
func changed(id int, b ...api.Piece) api.Tree {
	s := sample()
	i := slices.IndexFunc(s.Nodes, func(n api.Node) bool { return n.Id == id })
	s.Nodes[i].Body = b
	return s
}

// P12.1, P12.3 (L5): trees that need not come from each other by an operation.
func TestKept(t *testing.T) {
	some, all, more := order(5, 11, 3, 4), order(5, 11, 3, 10), order(5, 11, 3, most)
	without, err := tree.Without(sample(), "a/f")
	if err != api.OK {
		t.Fatal(err)
	}
	lost := done(t, sample(), plain(api.OpenFile, "a/f"), unlink("a/f"))
	other := files(nil, body(of(7, 0, 10)))
	dir := tree.New(0)
	dir.Nodes[0].List = []api.Entry{{Name: "a", Id: 3}}
	dir.Nodes = append(dir.Nodes, api.Node{Id: 3, Kind: api.Dir, Links: 1})
	dir.Next = 4
	for i, e := range []struct {
		a, b api.Tree
		h    api.Hold
		want bool
	}{
		{sample(), sample(), more, true},
		{sample(), tree.New(0), order(5, 11), true},
		{sample(), tree.New(0), all, false},
		{tree.New(0), sample(), all, true},
		// Other bytes behind the last one that is held, at it, and before it.
		{sample(), changed(3, of(7, 0, 4)), some, true},
		{sample(), changed(3, of(7, 0, 3)), some, false},
		{sample(), changed(3), some, false},
		{sample(), changed(3, of(7, 0, 4), of(8, 4, 6)), some, true},
		{sample(), changed(3, of(7, 0, 3), of(8, 3, 7)), some, false},
		{sample(), changed(3, of(7, 0, 4), of(8, 4, 6)), all, false},
		{sample(), changed(3, of(7, 0, 10), of(8, 4, 6)), all, true},
		{sample(), changed(3, of(7, 0, 11)), all, true},
		{sample(), changed(3, of(7, 0, 9)), all, false},
		{sample(), changed(3, of(7, 0, 9)), more, false},
		{sample(), changed(3, of(7, 0, 10), hole(1)), more, true},
		{sample(), changed(3, of(8, 0, 10)), all, false},
		{sample(), changed(3, of(7, 1, 10)), all, false},
		{sample(), changed(3, of(7, 0, 1), of(7, 0, 9)), all, false},
		{sample(), changed(3, hole(1), of(7, 0, 10)), all, false},
		{sample(), changed(3, of(7, 0, 2), gone(1), of(7, 3, 7)), some, false},
		{sample(), changed(3, of(7, 0, 4), gone(1), of(7, 5, 5)), some, true},
		{sample(), changed(4, gone(3), of(8, 0, 2)), order(5, 11, 4, 1), false},
		{sample(), changed(6, of(7, 5, 2), hole(1)), order(5, 11, 6, 3), false},
		{sample(), changed(6, of(7, 5, 2), hole(1)), order(5, 11, 6, 2), true},
		{sample(), changed(3), order(5, 11, 3, 0), true},
		// As many bytes as are held in the first tree, whatever the second one has.
		{changed(3, of(7, 0, 3)), sample(), all, true},
		{changed(3, of(7, 0, 3)), changed(3, of(7, 0, 3), of(9, 0, 9)), more, true},
		{changed(3, of(7, 0, 3)), changed(3, of(7, 0, 2), of(9, 0, 9)), more, false},
		{changed(3), changed(3, of(9, 0, 9)), all, true},
		{changed(3), without, all, false},
		// The file is not there, is a directory, or has no entry.
		{sample(), without, all, false},
		{sample(), without, order(5, 11, 3, 0), false},
		{sample(), without, order(5, 11, 4, 5, 6, 3), true},
		{sample(), without, order(5, 11, 4, 5, 3, 1, 6, 3), false},
		{without, sample(), all, true},
		{without, without, all, true},
		{sample(), lost, all, false},
		{sample(), lost, order(5, 11, 3, 0), false},
		{lost, sample(), all, true},
		{lost, lost, all, true},
		{lost, without, all, true},
		{lost, changed(3), all, true},
		{sample(), dir, all, false},
		{sample(), dir, order(5, 11, 3, 0), false},
		{dir, sample(), all, true},
		{dir, tree.New(0), all, true},
		// Only the number of the file tells which one it is.
		{sample(), other, all, true},
		{other, sample(), all, true},
		{sample(), files(body(of(7, 0, 10)), nil), all, false},
		{sample(), other, order(5, 11, 3, 10, 4, 5), false},
	} {
		if !tree.Valid(e.a) || !tree.Valid(e.b) {
			t.Fatalf("case %d: a tree is not valid", i)
		}
		if got := hold.Kept(e.a, e.b, orders(e.h), 10); got != e.want {
			t.Errorf("case %d: %v", i, got)
		}
		if !hold.Kept(e.a, e.b, orders(e.h), 11) || !hold.Kept(e.a, e.b, nil, 10) {
			t.Errorf("case %d: not kept, without holds that are live", i)
		}
		// One hold that is not kept is enough, wherever it stands, if it is live.
		kept, over, later := order(2, 99, 9, 9), order(3, 10, 3, 10, 4, 5), order(9, 12, 9, 9)
		for _, l := range [][]api.Hold{orders(kept, e.h), orders(e.h, later), orders(kept, over, e.h, later)} {
			if got := hold.Kept(e.a, e.b, l, 10); got != e.want {
				t.Errorf("case %d, %v: %v", i, l, got)
			}
		}
	}
}

// P12.3 (L5): any two trees of a way, and those of two ways, compared byte by byte; each tree keeps what it holds itself.
func TestKeptSome(t *testing.T) {
	counts := map[bool]int{}
	var last []api.Tree
	walks(t, 31, func(g *rand.Rand, _, s api.Tree, _ api.Op, _ api.Errno) {
		last = append(last, s)
		if len(last) > 80 {
			last = last[1:]
		}
		for range 10 {
			o, now := pick(g, last), 98+g.Intn(6)
			l := someHolds(g, o, 100)
			got := hold.Kept(o, s, l, now)
			if got != kept(o, s, l, now) || !hold.Kept(s, s, l, now) {
				t.Fatalf("%v, %v, %v at %d: %v", o, s, l, now, got)
			}
			counts[got]++
		}
	})
	if counts[true] < 5000 || counts[false] < 5000 {
		t.Errorf("kept or not: %v", counts)
	}
}

// promise is what an order has promised: until a time, a file begins with these bytes.
type promise struct {
	until, node int
	bytes       []byteOf
}

// keeper goes a way of operations, on which it gives orders, and leaves out what they block.
type keeper struct {
	now, next                int
	tree                     api.Tree
	holds                    []api.Hold
	promises                 []promise
	blocked, done, afterward int
}

// order gives an order for what is at some path.
func (k *keeper) order(t *testing.T, g *rand.Rand) {
	h, err := hold.Make(k.tree, somePath(g, k.tree, 1+g.Intn(2)), k.next, k.now+1+g.Intn(30))
	if err != api.OK || len(k.holds) == api.MaxHolds {
		return
	}
	k.next++
	k.holds = append(k.holds, h)
	for _, b := range h.Bind {
		bytes, is := fileBytes(k.tree, b.Node)
		if !is || len(bytes) != b.N {
			t.Fatalf("%v of a file with %d bytes", b, len(bytes))
		}
		k.promises = append(k.promises, promise{h.Until, b.Node, bytes})
	}
	if !hold.Valid(k.holds) {
		t.Fatalf("%v are not valid", k.holds)
	}
}

// step does an operation, unless it is blocked, and looks at all promises.
func (k *keeper) step(t *testing.T, g *rand.Rand) {
	x := someOp(g, k.tree)
	if _, is := hold.Blocks(k.tree, k.holds, x, k.now); is {
		k.blocked++
		return
	}
	after, reply := tree.Do(k.tree, x, 1)
	if reply.E == api.OK {
		k.done++
	}
	k.promises = slices.DeleteFunc(k.promises, func(p promise) bool {
		is := begins(after, p.node, p.bytes)
		if !is && p.until > k.now {
			t.Fatalf("%v of %v at %d, with %v: %v", x, k.tree, k.now, k.holds, p)
		}
		if !is {
			k.afterward++
		}
		return !is
	})
	k.tree = after
}

// P12.4, P12.5 (L2 to L4): what an order holds stays until its date, through any operations that are not blocked, and may go from then on; also if holds that are over are taken out on the way.
func TestKeepingUntilTheDate(t *testing.T) {
	g := rand.New(rand.NewSource(32))
	var blocked, finished, afterward int
	for range 500 {
		k := &keeper{now: g.Intn(1000), next: 1, tree: pick(g, starts())}
		for range 120 {
			switch g.Intn(12) {
			case 0:
				k.order(t, g)
			case 1, 2, 3:
				k.now++
			case 4:
				k.holds = hold.Live(k.holds, k.now)
			default:
				k.step(t, g)
			}
		}
		blocked, finished, afterward = blocked+k.blocked, finished+k.done, afterward+k.afterward
	}
	if blocked < 300 || finished < 3000 || afterward < 150 {
		t.Errorf("%d were blocked, %d done, and %d promises were over when their bytes went", blocked, finished, afterward)
	}
}

// P12.4 (L4): holds of any number of bytes: what is held at some time stays, also what was written after the order was given.
func TestKeepingMore(t *testing.T) {
	g := rand.New(rand.NewSource(33))
	counts := map[bool]int{}
	for range 400 {
		s := pick(g, starts())
		l := someHolds(g, s, 100)
		for range 60 {
			x := someOp(g, s)
			_, is := hold.Blocks(s, l, x, 100)
			counts[is]++
			if is {
				continue
			}
			after, _ := tree.Do(s, x, 1)
			for _, h := range hold.Live(l, 100) {
				for _, b := range h.Bind {
					was, linked := heldBytes(s, b)
					if now, still := heldBytes(after, b); linked && (!still || len(now) < len(was) || !slices.Equal(now[:len(was)], was)) {
						t.Fatalf("%v of %v with %v: %v was %v", x, s, l, now, was)
					}
				}
			}
			s = after
		}
	}
	if counts[true] < 300 || counts[false] < 5000 {
		t.Errorf("blocked or not: %v", counts)
	}
}

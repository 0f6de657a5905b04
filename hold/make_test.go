package hold_test

import (
	"math"
	"math/rand"
	"slices"
	"strings"
	"testing"

	"burgage/api"
	"burgage/hold"
	"burgage/tree"
)

// P12.1 to P12.3, P12.7: the example of the chapter.
func TestExamples(t *testing.T) {
	s := files(body(of(4, 0, 5)))
	h, err := hold.Make(s, "a", 7, 50)
	if !equalHold(h, order(7, 50, 2, 5)) || err != api.OK {
		t.Fatalf("Make: %v, %v", h, err)
	}
	twice := done(t, s, api.Op{Kind: api.Link, Path: "a", To: "b"})
	for _, e := range []struct {
		t    api.Tree
		x    api.Op
		want bool
	}{
		{s, api.Op{Kind: api.Write, Path: "a", Off: 5, Id: 9, N: 1}, false},
		{s, api.Op{Kind: api.Write, Path: "a", Off: 4, Id: 9, N: 1}, true},
		{s, api.Op{Kind: api.Cut, Path: "a", N: 4}, true},
		{s, api.Op{Kind: api.Cut, Path: "a", N: 6}, false},
		{s, api.Op{Kind: api.Unlink, Path: "a"}, true},
		{twice, api.Op{Kind: api.Unlink, Path: "a"}, false},
	} {
		if id, is := hold.Blocks(e.t, orders(h), e.x, 10); is != e.want || is && id != 7 || !is && id != 0 {
			t.Errorf("%v: %d, %v", e.x, id, is)
		}
	}
	if got := hold.Chunks(s, orders(h), 10); !slices.Equal(got, clashes(4, 7)) {
		t.Errorf("Chunks: %v", got)
	}
}

// P12.1, P12.2 (L2): files, directories, the root, and directories without files.
func TestMake(t *testing.T) {
	everything := []int{3, 10, 4, 5, 6, 3, 11, 3, 12, 0, 13, 9}
	for path, want := range map[string][]int{
		"":    everything,
		"a":   {3, 10, 4, 5, 6, 3},
		"a/f": {3, 10},
		"a/g": {4, 5},
		"l":   {4, 5},
		"a/s": {6, 3},
		"e":   nil,
		"k":   {12, 0, 13, 9},
		"k/t": {12, 0},
		"k/u": {13, 9},
		"w":   {11, 3},
	} {
		if got, err := hold.Make(sample(), path, 7, 50); !equalHold(got, order(7, 50, want...)) || err != api.OK {
			t.Errorf("%q: %v, %v, not %v", path, got, err, want)
		}
	}
	if got, err := hold.Make(tree.New(5), "", 1, 0); !equalHold(got, order(1, 0)) || err != api.OK {
		t.Errorf("a new tree: %v, %v", got, err)
	}
	// Nothing but numbers and sizes is bound: neither the entries that a file has elsewhere, nor who has it open.
	s := done(t, sample(), api.Op{Kind: api.Unlink, Path: "w"}, api.Op{Kind: api.Mkdir, Path: "e/d"}, api.Op{Kind: api.Link, Path: "a/f", To: "e/d/x"}, api.Op{Kind: api.Link, Path: "a/f", To: "e/d/y"}, api.Op{Kind: api.Create, Path: "e/0"})
	for path, want := range map[string][]int{"e": {3, 10, 31, 0}, "e/d": {3, 10}, "": {3, 10, 4, 5, 6, 3, 12, 0, 13, 9, 31, 0}} {
		if got, err := hold.Make(s, path, 7, 50); !equalHold(got, order(7, 50, want...)) || err != api.OK {
			t.Errorf("%q then: %v, %v, not %v", path, got, err, want)
		}
	}
}

// P12.1, P12.9 (L2): numbers and dates at the ends of their ranges, and files of the least and the greatest size.
func TestMakeLimits(t *testing.T) {
	for _, id := range []int{1, 2, 16, 17, 1000, math.MaxInt} {
		for _, until := range []int{0, 1, 50, 999999999, 1000000000} {
			got, err := hold.Make(sample(), "a/f", id, until)
			if !equalHold(got, order(id, until, 3, 10)) || err != api.OK || !hold.Valid(orders(got)) {
				t.Errorf("%d until %d: %v, %v", id, until, got, err)
			}
		}
	}
	s := files(body(hole(most)), nil, body(gone(most)), body(of(4095, 0, most)), body(of(1, most-1, 1)))
	got, err := hold.Make(s, "", 1, 1)
	if !equalHold(got, order(1, 1, 2, most, 3, 0, 4, most, 5, most, 6, 1)) || err != api.OK || !hold.Valid(orders(got)) {
		t.Errorf("great files: %v, %v", got, err)
	}
	many := tree.New(0)
	many.Next = 4 * api.MaxNodes
	want := order(1, 1)
	for i := range api.MaxNodes - 1 {
		id := 4*i + 3
		many.Nodes = append(many.Nodes, api.Node{Id: id, Kind: api.File, Links: 1, Body: body(hole(i + 1))})
		many.Nodes[0].List = append(many.Nodes[0].List, api.Entry{Name: string([]byte{'a' + byte(i/16), 'a' + byte(i%16)}), Id: id})
		want.Bind = append(want.Bind, api.Bind{Node: id, N: i + 1})
	}
	got, err = hold.Make(many, "", 1, 1)
	if !tree.Valid(many) || !equalHold(got, want) || err != api.OK {
		t.Errorf("many files: %v, %v", got, err)
	}
}

// P12.1, and P1 of the document (L2): what is refused. A wrong number or date is told before a wrong path.
func TestMakeRefused(t *testing.T) {
	paths := map[string]api.Errno{
		"": api.OK, "a": api.OK, "a/f": api.OK, "e": api.OK,
		"z": api.ErrNone, "a/z": api.ErrNone, "z/z": api.ErrNone, "e/f": api.ErrNone,
		"a/f/z": api.ErrDir, "w/w": api.ErrDir, "a/f/z/z": api.ErrDir,
		"/": api.ErrPath, "/a": api.ErrPath, "a/": api.ErrPath, "a//f": api.ErrPath, "..": api.ErrPath, "ä": api.ErrPath, "a\x00": api.ErrPath, "abcdefghijklmnopq": api.ErrPath, strings.Repeat("a/", 8) + "a": api.ErrPath,
	}
	for path, want := range paths {
		if _, err := tree.Find(sample(), path); err != want {
			t.Fatalf("Find of %q: %v", path, err)
		}
		if got, err := hold.Make(sample(), path, 1, 50); err != want || want != api.OK && !isZero(got) {
			t.Errorf("%q: %v, %v", path, got, err)
		}
		for _, id := range []int{0, -1, -2, math.MinInt} {
			for _, until := range []int{0, 50, -1, 1000000001} {
				if got, err := hold.Make(sample(), path, id, until); err != api.ErrArg || !isZero(got) {
					t.Errorf("%q, %d until %d: %v, %v", path, id, until, got, err)
				}
			}
		}
		for _, until := range []int{-1, -2, math.MinInt, 1000000001, 1000000002, math.MaxInt} {
			if got, err := hold.Make(sample(), path, 1, until); err != api.ErrArg || !isZero(got) {
				t.Errorf("%q until %d: %v, %v", path, until, got, err)
			}
		}
	}
}

// P12.2 (L2): what an order binds, along ways of operations: exactly the files below, as they are.
func TestMakeSome(t *testing.T) {
	refused := 0
	walks(t, 11, func(g *rand.Rand, _, s api.Tree, _ api.Op, _ api.Errno) {
		for range 3 {
			path := somePath(g, s, 1+g.Intn(2))
			got, err := hold.Make(s, path, 5, 50)
			if _, want := tree.Find(s, path); want != api.OK {
				if err != want || !isZero(got) {
					t.Fatalf("%q: %v, %v", path, got, err)
				}
				refused++
				continue
			}
			if err != api.OK || !equalHold(got, api.Hold{Id: 5, Until: 50, Bind: bound(s, path)}) || !hold.Valid(orders(got)) {
				t.Fatalf("%q: %v, %v, not %v", path, got, err, bound(s, path))
			}
		}
	})
	if refused < 50 {
		t.Errorf("only %d paths led to nothing", refused)
	}
}

// P12.1, P12.5 (L3): holds that end before now, then, and after it.
func TestLive(t *testing.T) {
	l := orders(order(1, 9, 2, 3), order(2, 11), order(4, 10, 3, 3, 5, 0), order(5, 0), order(9, 1000000000, 2, 3))
	for now, want := range map[int][]api.Hold{
		math.MinInt:    l,
		-1:             l,
		0:              {l[0], l[1], l[2], l[4]},
		8:              {l[0], l[1], l[2], l[4]},
		9:              {l[1], l[2], l[4]},
		10:             {l[1], l[4]},
		11:             {l[4]},
		999999999:      {l[4]},
		1000000000:     nil,
		math.MaxInt:    nil,
		math.MaxInt32:  nil,
		math.MinInt32:  l,
		1<<32 + 10:     nil,
		-(1 << 32) + 9: l,
	} {
		got := hold.Live(l, now)
		if !equalHolds(got, want) || !hold.Valid(got) {
			t.Errorf("%d: %v, not %v", now, got, want)
		}
		if again := hold.Live(got, now); !equalHolds(again, got) {
			t.Errorf("%d, again: %v", now, again)
		}
	}
	if got := hold.Live(nil, 0); len(got) > 0 {
		t.Errorf("of no holds: %v", got)
	}
}

// P12.5 (L3): what is live at a time was live before it, and the order stays.
func TestLiveSome(t *testing.T) {
	g := rand.New(rand.NewSource(12))
	for range 3000 {
		l := someHolds(g, sample(), 100)
		for now := 98; now < 106; now++ {
			var want []api.Hold
			for _, h := range l {
				if h.Until > now {
					want = append(want, h)
				}
			}
			got := hold.Live(l, now)
			if !equalHolds(got, want) || !equalHolds(hold.Live(hold.Live(l, now-1), now), got) {
				t.Fatalf("%v at %d: %v", l, now, got)
			}
		}
	}
}

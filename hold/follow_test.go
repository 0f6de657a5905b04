package hold_test

import (
	"math"
	"math/rand"
	"slices"
	"testing"

	"burgage/api"
	"burgage/hold"
	"burgage/name"
	"burgage/tree"
)

// pairs returns pairs of an old number and a new one.
func pairs(l ...int) [][2]int {
	var p [][2]int
	for i := 0; i < len(l); i += 2 {
		p = append(p, [2]int{l[i], l[i+1]})
	}
	return p
}

// P12.1, P12.8 (L7): one hold.
func TestFollow(t *testing.T) {
	h := []int{3, 10, 4, 5, 12, 0, 13, 9}
	for _, e := range []struct{ bind, pairs, want []int }{
		{nil, nil, nil},
		{nil, []int{3, 30}, nil},
		{h, nil, h},
		// A copy behind all, between, and before; of a file that is bound with no bytes, too.
		{h, []int{3, 30}, []int{3, 10, 4, 5, 12, 0, 13, 9, 30, 10}},
		{h, []int{13, 8}, []int{3, 10, 4, 5, 8, 9, 12, 0, 13, 9}},
		{h, []int{4, 1}, []int{1, 5, 3, 10, 4, 5, 12, 0, 13, 9}},
		{h, []int{12, 30}, []int{3, 10, 4, 5, 12, 0, 13, 9, 30, 0}},
		{h, []int{4, math.MaxInt}, []int{3, 10, 4, 5, 12, 0, 13, 9, math.MaxInt, 5}},
		{h, []int{13, 31, 3, 30, 4, 29}, []int{3, 10, 4, 5, 12, 0, 13, 9, 29, 5, 30, 10, 31, 9}},
		{h, []int{3, 30, 3, 31, 3, 30}, []int{3, 10, 4, 5, 12, 0, 13, 9, 30, 10, 31, 10}},
		// The old one is bound by nothing.
		{h, []int{5, 30}, h},
		{h, []int{5, 4}, h},
		{h, []int{0, 30, -1, 31, 14, 32}, h},
		{h, []int{math.MinInt, 30, math.MaxInt, 31}, h},
		{h, []int{5, 30, 3, 31, 5, 31}, []int{3, 10, 4, 5, 12, 0, 13, 9, 31, 10}},
		// The new one is bound already: with less, as much, or more.
		{h, []int{3, 4}, []int{3, 10, 4, 10, 12, 0, 13, 9}},
		{h, []int{3, 12}, []int{3, 10, 4, 5, 12, 10, 13, 9}},
		{h, []int{4, 3}, h},
		{h, []int{12, 4}, h},
		{h, []int{3, 3}, h},
		{h, []int{12, 12}, h},
		{[]int{3, 7, 4, 7}, []int{3, 4}, []int{3, 7, 4, 7}},
		// The new one is no number of a node.
		{h, []int{3, 0}, h},
		{h, []int{3, -1}, h},
		{h, []int{3, math.MinInt}, h},
		{h, []int{3, 0, 4, 1, 13, -5}, []int{1, 5, 3, 10, 4, 5, 12, 0, 13, 9}},
		// The same new one twice, in both orders: with the greatest number.
		{h, []int{3, 30, 4, 30}, []int{3, 10, 4, 5, 12, 0, 13, 9, 30, 10}},
		{h, []int{4, 30, 3, 30}, []int{3, 10, 4, 5, 12, 0, 13, 9, 30, 10}},
		{h, []int{4, 30, 3, 30, 13, 30}, []int{3, 10, 4, 5, 12, 0, 13, 9, 30, 10}},
		{h, []int{12, 4, 13, 4}, []int{3, 10, 4, 9, 12, 0, 13, 9}},
		{h, []int{12, 30, 5, 30}, []int{3, 10, 4, 5, 12, 0, 13, 9, 30, 0}},
		// What is new does not count as old, before or after the other pair.
		{h, []int{3, 30, 30, 31}, []int{3, 10, 4, 5, 12, 0, 13, 9, 30, 10}},
		{h, []int{30, 31, 3, 30}, []int{3, 10, 4, 5, 12, 0, 13, 9, 30, 10}},
		{h, []int{3, 4, 4, 30}, []int{3, 10, 4, 10, 12, 0, 13, 9, 30, 5}},
		{h, []int{4, 30, 3, 4}, []int{3, 10, 4, 10, 12, 0, 13, 9, 30, 5}},
		{h, []int{3, 12, 12, 13, 12, 14}, []int{3, 10, 4, 5, 12, 10, 13, 9, 14, 0}},
		{h, []int{3, 4, 4, 3}, []int{3, 10, 4, 10, 12, 0, 13, 9}},
		{[]int{1, 1, 2, 2}, []int{1, 2, 2, 1}, []int{1, 2, 2, 2}},
		{[]int{1, most}, []int{1, 2, 2, 3}, []int{1, most, 2, most}},
	} {
		got := hold.Follow(orders(order(5, 11, e.bind...)), pairs(e.pairs...))
		if !equalHolds(got, orders(order(5, 11, e.want...))) || !hold.Valid(got) {
			t.Errorf("%v with %v: %v, not %v", e.bind, e.pairs, got, e.want)
		}
	}
}

// P12.1, P12.8 (L7): each hold by itself, also those that are over; nothing else changes.
func TestFollowSeveral(t *testing.T) {
	l := orders(order(2, 0, 3, 10), order(4, 50, 3, 4, 4, 5), order(5, 1000000000), order(9, 7, 4, 1, 9, 3))
	want := orders(order(2, 0, 3, 10, 30, 10), order(4, 50, 3, 4, 4, 5, 30, 5), order(5, 1000000000), order(9, 7, 4, 1, 9, 3, 30, 1))
	if got := hold.Follow(l, pairs(3, 30, 4, 30, 30, 31)); !equalHolds(got, want) {
		t.Errorf("%v", got)
	}
	if got := hold.Follow(l, nil); !equalHolds(got, l) {
		t.Errorf("without pairs: %v", got)
	}
	if got := hold.Follow(nil, pairs(3, 30)); len(got) > 0 {
		t.Errorf("without holds: %v", got)
	}
	if got := hold.Follow(row(16), pairs(16, 17)); len(got) != 16 || !hold.Valid(got) || !equalHold(got[15], order(16, 15, 16, 15, 17, 15)) {
		t.Errorf("16 holds: %v", got)
	}
}

// P12.8 (L7): all choices of up to three pairs of a few numbers.
func TestFollowAll(t *testing.T) {
	numbers := []int{-1, 0, 1, 2, 3, 4}
	var choices [][2]int
	for _, old := range numbers {
		for _, made := range numbers {
			choices = append(choices, [2]int{old, made})
		}
	}
	check := func(p ...[2]int) {
		for _, h := range []api.Hold{order(5, 11, 1, 4, 2, 9), order(5, 11, 2, 9, 3, 0, 4, 1)} {
			if got := hold.Follow(orders(h), p); !equalHolds(got, orders(follow(h, p))) {
				t.Fatalf("%v with %v: %v", h, p, got)
			}
		}
	}
	for _, a := range choices {
		check(a)
		for _, b := range choices {
			check(a, b)
			for _, c := range choices {
				check(a, b, c)
			}
		}
	}
}

// P12.8 (L7): long lists; the order of the pairs does not matter, and holds that are valid stay so.
func TestFollowSome(t *testing.T) {
	g := rand.New(rand.NewSource(51))
	grown := 0
	for range 5000 {
		l := someHolds(g, sample(), 100)
		var p [][2]int
		for range g.Intn(12) {
			p = append(p, [2]int{g.Intn(20) - 1, g.Intn(40) - 3})
		}
		got := hold.Follow(l, p)
		var want []api.Hold
		for _, h := range l {
			want = append(want, follow(h, p))
		}
		if !equalHolds(got, want) || !hold.Valid(got) {
			t.Fatalf("%v with %v: %v, not %v", l, p, got, want)
		}
		g.Shuffle(len(p), func(i, j int) { p[i], p[j] = p[j], p[i] })
		if again := hold.Follow(l, p); !equalHolds(again, got) || !equalHolds(hold.Follow(got, nil), got) {
			t.Fatalf("%v with %v: %v, and %v", l, p, got, again)
		}
		if !equalHolds(got, l) {
			grown++
		}
	}
	if grown < 1000 {
		t.Errorf("only %d times anything followed", grown)
	}
}

// copied returns s with a copy of the directory at a path, and the pairs of numbers in it.
func copied(t *testing.T, s api.Tree, from, to string) (api.Tree, [][2]int) {
	t.Helper()
	part, err := tree.Sub(s, from)
	if err != api.OK {
		t.Fatal(from, err)
	}
	with, err := tree.Graft(s, to, part)
	if err != api.OK {
		t.Fatal(to, err)
	}
	var p [][2]int
	for _, n := range s.Nodes {
		for _, path := range tree.Paths(s, n.Id) {
			if there, is := name.Swap(path, from, to); is {
				made, err := tree.Find(with, there)
				if err != api.OK {
					t.Fatal(there, err)
				}
				p = append(p, [2]int{n.Id, made})
				break
			}
		}
	}
	return with, p
}

// P12.8 (L4 to L7): a copy that is bound holds as many bytes as what it was made of, and what holds this, holds the copy.
func TestFollowCopies(t *testing.T) {
	one := done(t, sample(), unlink("l"))
	s, p := copied(t, one, "a", "e/c")
	h := order(5, 11, 3, 4, 4, 5, 12, 0)
	got := hold.Follow(orders(h, order(6, 11, 6, 2)), p)
	if !hold.Valid(got) || len(got[0].Bind) != 5 || len(got[1].Bind) != 2 {
		t.Fatalf("%v with %v: %v", h, p, got)
	}
	for _, dir := range []string{"a", "e/c"} {
		tried(t, s, trial{nil, unlink(dir + "/f"), false})
		for _, e := range []struct {
			x    api.Op
			want int
		}{
			{unlink(dir + "/f"), 5}, {cut(dir+"/f", 3), 5}, {cut(dir+"/f", 4), 0}, {write(dir+"/f", 4, 3, 1), 0}, {write(dir+"/f", 3, 3, 1), 5},
			{cut(dir+"/g", 4), 5}, {unlink(dir + "/g"), 5}, {cut(dir+"/g", 5), 0},
			{cut(dir+"/s", 1), 6}, {cut(dir+"/s", 2), 0}, {unlink(dir + "/s"), 6}, {rename(dir+"/f", dir+"/s"), 6}, {rename(dir+"/s", dir+"/f"), 5},
		} {
			if id, is := hold.Blocks(s, got, e.x, 10); id != e.want || is != (e.want > 0) {
				t.Errorf("%v: %d, %v", e.x, id, is)
			}
		}
	}
	// Without the original, the copy is held just the same.
	alone := done(t, s, unlink("a/f"), unlink("a/g"), unlink("a/s"), unlink("k/u"), unlink("w"))
	if before, after := hold.Chunks(one, orders(h, order(6, 11, 6, 2)), 10), hold.Chunks(alone, got, 10); !slices.Equal(before, after) || len(before) != 3 {
		t.Errorf("%v, and %v", before, after)
	}
}

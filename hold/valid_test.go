package hold_test

import (
	"math"
	"math/rand"
	"slices"
	"testing"

	"burgage/api"
	"burgage/hold"
)

// numbered returns holds with these numbers.
func numbered(ids ...int) []api.Hold {
	var l []api.Hold
	for _, id := range ids {
		l = append(l, order(id, 5, 2, 3))
	}
	return l
}

// row returns n holds with the numbers from 1 on.
func row(n int) []api.Hold {
	var l []api.Hold
	for i := range n {
		l = append(l, order(i+1, i, i+1, i))
	}
	return l
}

// P12.1, P12.9 (L1): no holds, 16 of them, and more.
func TestValidCounts(t *testing.T) {
	for n := range 40 {
		if got := hold.Valid(row(n)); got != (n <= 16) {
			t.Errorf("%d holds: %v", n, got)
		}
	}
	if !hold.Valid(nil) || !hold.Valid([]api.Hold{}) {
		t.Error("no holds are not valid")
	}
}

// P12.1, P12.9 (L1): numbers of holds.
func TestValidIds(t *testing.T) {
	for _, e := range []struct {
		ids  []int
		want bool
	}{
		{[]int{1}, true},
		{[]int{0}, false},
		{[]int{-1}, false},
		{[]int{math.MinInt}, false},
		{[]int{math.MaxInt}, true},
		{[]int{1, 2}, true},
		{[]int{1, 9, 10, 50}, true},
		{[]int{1, 1}, false},
		{[]int{2, 1}, false},
		{[]int{0, 1}, false},
		{[]int{-1, 0, 1}, false},
		{[]int{1, 0}, false},
		{[]int{1, -1}, false},
		{[]int{1, 2, 2}, false},
		{[]int{1, 3, 2}, false},
		{[]int{2, 1, 3}, false},
		{[]int{1, 3, 2, 4}, false},
		{[]int{1, 2, 3, 1}, false},
		{[]int{math.MaxInt - 1, math.MaxInt}, true},
		{[]int{math.MaxInt, math.MinInt}, false},
	} {
		if got := hold.Valid(numbered(e.ids...)); got != e.want {
			t.Errorf("%v: %v", e.ids, got)
		}
	}
}

// P12.1, P12.9 (L1): dates, and what is bound, of one hold, and of the first, the middle or the last one of several.
func TestValidFields(t *testing.T) {
	for _, e := range []struct {
		h    api.Hold
		want bool
	}{
		{order(3, 0), true},
		{order(3, -1), false},
		{order(3, 1), true},
		{order(3, 1000000000), true},
		{order(3, 1000000001), false},
		{order(3, math.MaxInt), false},
		{order(3, math.MinInt), false},
		{order(3, 5, 1, 0), true},
		{order(3, 5, 1, 1), true},
		{order(3, 5, 1, 1<<20), true},
		{order(3, 5, 1, 1<<20+1), false},
		{order(3, 5, 1, -1), false},
		{order(3, 5, 1, math.MaxInt), false},
		{order(3, 5, 1, math.MinInt), false},
		{order(3, 5, 0, 1), false},
		{order(3, 5, -1, 1), false},
		{order(3, 5, math.MinInt, 1), false},
		{order(3, 5, math.MaxInt, 1), true},
		{order(3, 5, 1, 9, 2, 0), true},
		{order(3, 5, 1, 9, 5, 9, 7, 1), true},
		{order(3, 5, 1, 9, 1, 9), false},
		{order(3, 5, 1, 9, 1, 8), false},
		{order(3, 5, 2, 9, 1, 9), false},
		{order(3, 5, 0, 9, 1, 9), false},
		{order(3, 5, 1, 9, 0, 9), false},
		{order(3, 5, 1, 9, 3, 9, 2, 9), false},
		{order(3, 5, 1, 9, 3, 9, 3, 9), false},
		{order(3, 5, 1, 9, 3, 9, 2, 9, 4, 9), false},
		{order(3, 5, 1, -1, 3, 9), false},
		{order(3, 5, 1, 9, 3, -1), false},
		{order(3, 5, 1, 9, 3, 1<<20+1, 4, 9), false},
		{order(3, 5, 1, 1<<20, 3, 1<<20, 4, 1<<20), true},
		{order(3, -1, 1, -1), false},
	} {
		for _, l := range [][]api.Hold{orders(e.h), orders(e.h, order(4, 5, 1, 1)), orders(order(1, 5, 3, 3), e.h), orders(order(1, 5), e.h, order(9, 0))} {
			if got := hold.Valid(l); got != e.want {
				t.Errorf("%v: %v", l, got)
			}
		}
	}
}

// P12.9 (L1): a hold may bind more nodes than a tree has, and the same as another one.
func TestValidMany(t *testing.T) {
	var l []int
	for id := 1; id <= 5000; id++ {
		l = append(l, id*7, id)
	}
	h := orders(order(1, 5, l...), order(2, 5, l...))
	if !hold.Valid(h) {
		t.Error("many nodes are not valid")
	}
	h[1].Bind[4999].Node = h[1].Bind[4998].Node
	if hold.Valid(h) {
		t.Error("the last node twice is valid")
	}
}

// valid says it as the chapter does, for each pair.
func valid(l []api.Hold) bool {
	for i, h := range l {
		if h.Id < 1 || h.Until < 0 || h.Until > 1e9 || i >= 16 {
			return false
		}
		for _, o := range l[:i] {
			if o.Id >= h.Id {
				return false
			}
		}
		for j, b := range h.Bind {
			if b.Node < 1 || b.N < 0 || b.N > 1<<20 || slices.ContainsFunc(h.Bind[:j], func(o api.Bind) bool { return o.Node >= b.Node }) {
				return false
			}
		}
	}
	return true
}

// P12.9 (L1): valid holds in which a few numbers were changed.
func TestValidSome(t *testing.T) {
	g := rand.New(rand.NewSource(1))
	counts := map[bool]int{}
	for range 20000 {
		l := someHolds(g, sample(), 100)
		if !valid(l) {
			t.Fatalf("%v", l)
		}
		for range g.Intn(3) {
			if len(l) == 0 {
				break
			}
			h, n := &l[g.Intn(len(l))], pick(g, slices.Concat(odd, []int{0, 1, 2, 5, 1 << 20, 1<<20 + 1, 1e9, 1e9 + 1}))
			switch {
			case g.Intn(3) == 0:
				h.Id = n
			case g.Intn(2) == 0:
				h.Until = n
			case len(h.Bind) > 0:
				b := &h.Bind[g.Intn(len(h.Bind))]
				pick(g, []func(){func() { b.Node = n }, func() { b.N = n }})()
			}
		}
		got := hold.Valid(l)
		if got != valid(l) {
			t.Fatalf("%v: %v", l, got)
		}
		counts[got]++
	}
	if counts[true] < 5000 || counts[false] < 5000 {
		t.Errorf("valid or not: %v", counts)
	}
}

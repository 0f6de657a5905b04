package charge_test

import (
	"math"
	"math/rand"
	"slices"
	"testing"

	"burgage/api"
	"burgage/charge"
)

// P10.1, P10.4 (J5): uses that are exactly what is allowed, and 1 more, in each of both numbers, of owners and of all.
func TestFits(t *testing.T) {
	l := accounts(account(0, 1, 3), account(5, 4, 0), account(6, 0, 10))
	for _, e := range []struct {
		l    []api.Account
		lim  []api.Limit
		want bool
	}{
		{nil, nil, true},
		{l, nil, true},
		{nil, limits(limit(-1, 0, 0), limit(0, 0, 0), limit(999, 0, 0)), true},
		{l, limits(limit(0, 1, 3)), true},
		{l, limits(limit(0, 0, 3)), false},
		{l, limits(limit(0, 1, 2)), false},
		{l, limits(limit(5, 4, 0)), true},
		{l, limits(limit(5, 3, 9)), false},
		{l, limits(limit(6, 0, 10)), true},
		{l, limits(limit(6, 9, 9)), false},
		{l, limits(limit(1, 0, 0)), true},
		{l, limits(limit(999, 0, 0)), true},
		{l, limits(limit(-1, 5, 13)), true},
		{l, limits(limit(-1, 4, 13)), false},
		{l, limits(limit(-1, 5, 12)), false},
		{l, limits(limit(-1, 5, 13), limit(0, 1, 3), limit(5, 4, 0), limit(6, 0, 10)), true},
		{l, limits(limit(-1, 5, 13), limit(0, 1, 3), limit(5, 4, 0), limit(6, 0, 9)), false},
		{l, limits(limit(-1, 5, 12), limit(0, 1, 3), limit(5, 4, 0), limit(6, 0, 10)), false},
		{l, limits(limit(-1, 9, 99), limit(0, 1, 3), limit(5, 3, 0), limit(6, 0, 10)), false},
		{l, limits(limit(-1, math.MaxInt, math.MaxInt), limit(0, math.MaxInt, math.MaxInt)), true},
		{accounts(account(0, -1, 0), account(5, 1, 1)), limits(limit(-1, 0, 1), limit(0, 0, 0), limit(5, 1, 1)), true},
		{accounts(account(0, -1, 0), account(5, 1, 1)), limits(limit(-1, 0, 0)), false},
	} {
		if got := charge.Fits(e.l, e.lim); got != e.want {
			t.Errorf("%v in %v: %v", e.l, e.lim, got)
		}
	}
}

// P10.1 (J5): numbers whose sum passes 64 bits.
func TestFitsGreatNumbers(t *testing.T) {
	const great, small = math.MaxInt, math.MinInt
	for _, e := range []struct {
		numbers []int
		most    int
		want    bool
	}{
		{[]int{great}, great, true},
		{[]int{great}, great - 1, false},
		{[]int{great, 1}, great, false},
		{[]int{great, great}, great, false},
		{[]int{great, great, 2}, great, false},
		{[]int{great, great, 2}, 0, false},
		{[]int{1 << 62, 1 << 62}, great, false},
		{[]int{1 << 62, 1 << 62, 1 << 62, 1 << 62}, great, false},
		{[]int{1 << 62, 1 << 62, -1}, great, true},
		{[]int{1 << 62, 1 << 62, -1}, great - 1, false},
		{[]int{-1, 1 << 62, 1 << 62}, great, true},
		{[]int{great, 1, small}, 0, true},
		{[]int{small, small}, 0, true},
		{[]int{small, small, great, great, 2}, 0, true},
		{[]int{small, small, great, great, 3}, 0, false},
		{[]int{small, -1}, 0, true},
		{[]int{1 << 31, 1 << 31}, 1 << 32, true},
		{[]int{1 << 31, 1 << 31}, 1<<32 - 1, false},
		{[]int{1<<32 - 1, 1}, 1 << 32, true},
		{[]int{1<<32 - 1, 1}, 1<<32 - 1, false},
		{[]int{1<<32 - 1, 2}, 1 << 32, false},
		{[]int{1 << 33, -1}, 1<<33 - 1, true},
		{[]int{1 << 33, -1}, 1<<33 - 2, false},
		{[]int{1<<33 + 5}, 1<<34 + 1, true},
		{[]int{-1 << 32, 5}, 0, true},
		{[]int{-5}, 0, true},
	} {
		var nodes, bytes []api.Account
		for i, n := range e.numbers {
			nodes, bytes = append(nodes, account(i, n, 0)), append(bytes, account(i, 0, n))
		}
		if got := charge.Fits(nodes, limits(limit(api.Everyone, e.most, 0))); got != e.want {
			t.Errorf("nodes %v in %d: %v", e.numbers, e.most, got)
		}
		if got := charge.Fits(bytes, limits(limit(api.Everyone, 0, e.most))); got != e.want {
			t.Errorf("bytes %v in %d: %v", e.numbers, e.most, got)
		}
		if len(e.numbers) == 1 && charge.Fits(bytes, limits(limit(0, 0, e.most))) != e.want {
			t.Errorf("bytes %v in %d, of the owner", e.numbers, e.most)
		}
	}
}

// P10.1, P10.4 (J8): operations of the sample, in which 5 has 3 nodes and 8 bytes, 6 has 2 and 10, 7 has 2 and 3, 8 has 3 and 4; all have 10 and 25.
func TestBlocks(t *testing.T) {
	create := api.Op{Kind: api.Create, Who: 5, Path: "z"}
	grow := api.Op{Kind: api.Append, Path: "a/f", Id: 3, N: 4}
	same := api.Op{Kind: api.Write, Path: "a/f", Id: 3, N: 4}
	shrink := api.Op{Kind: api.Cut, Path: "a/f", N: 9}
	give := api.Op{Kind: api.Chown, Path: "a/f", N: 7}
	for _, e := range []struct {
		x    api.Op
		lim  []api.Limit
		want bool
	}{
		{create, nil, false},
		{create, limits(limit(5, 4, 0)), false},
		{create, limits(limit(5, 3, 0)), true},
		{create, limits(limit(5, 2, 99)), true},
		{create, limits(limit(5, 0, 0)), true},
		{create, limits(limit(4, 0, 0), limit(6, 0, 0)), false},
		{create, limits(limit(-1, 11, 0)), false},
		{create, limits(limit(-1, 10, 0)), true},
		{create, limits(limit(-1, 10, 0), limit(5, 4, 8)), true},
		{create, limits(limit(-1, 11, 0), limit(5, 3, 8)), true},
		{create, limits(limit(-1, 11, 25), limit(0, 0, 0), limit(5, 4, 8), limit(6, 0, 0)), false},
		{create, limits(limit(5, math.MaxInt, math.MaxInt)), false},
		{grow, limits(limit(6, 0, 14)), false},
		{grow, limits(limit(6, 0, 13)), true},
		{grow, limits(limit(6, 99, 9)), true},
		{grow, limits(limit(0, 0, 0)), false},
		{grow, limits(limit(-1, 0, 29)), false},
		{grow, limits(limit(-1, 0, 28)), true},
		{same, limits(limit(-1, 0, 0), limit(6, 0, 0)), false},
		{shrink, limits(limit(-1, 0, 0), limit(6, 0, 0)), false},
		{give, limits(limit(-1, 0, 0)), false},
		{give, limits(limit(-1, 0, 0), limit(6, 0, 0)), false},
		{give, limits(limit(-1, 0, 0), limit(7, 3, 13)), false},
		{give, limits(limit(7, 2, 13)), true},
		{give, limits(limit(7, 3, 12)), true},
		{api.Op{Kind: api.Chown, Path: "k/t", N: 7}, limits(limit(7, 3, 0)), false},
		{api.Op{Kind: api.Chown, Path: "k/t", N: 7}, limits(limit(7, 2, 0)), true},
		{api.Op{Kind: api.Chown, Path: "a/f", N: 6}, limits(limit(-1, 0, 0), limit(6, 0, 0)), false},
		{api.Op{Kind: api.Chown, Path: "a/f", N: 999}, limits(limit(999, 1, 9)), true},
		{api.Op{Kind: api.Chown, Path: "a/f", N: 999}, limits(limit(999, 1, 10)), false},
		{api.Op{Kind: api.Write, Path: "k/t", Off: 5, Id: 3, N: 4}, limits(limit(6, 2, 18)), true},
		{api.Op{Kind: api.Write, Path: "k/t", Off: 5, Id: 3, N: 4}, limits(limit(6, 2, 19)), false},
	} {
		if got := charge.Blocks(sample(), e.x, e.lim); got != e.want {
			t.Errorf("%v with %v: %v", e.x, e.lim, got)
		}
	}
}

// P10.4 (J8): operations of all kinds are blocked by a limit of 0 exactly if they make the use greater for which it is, in the number that it is about.
func TestBlocksByKinds(t *testing.T) {
	for _, c := range changes() {
		all := charge.All(c.want)
		for _, owner := range []int{-1, 0, 4, 5, 6, 7, 8, 9, 998, 999} {
			u := charge.Get(c.want, owner)
			if owner == api.Everyone {
				u = all
			}
			for _, e := range []struct {
				x    api.Limit
				want bool
			}{
				{limit(owner, 0, 0), u.Nodes > 0 || u.Bytes > 0}, {limit(owner, 0, most*256), u.Nodes > 0}, {limit(owner, 256, 0), u.Bytes > 0}, {limit(owner, 256, most*256), false},
			} {
				if got := charge.Blocks(sample(), c.x, limits(e.x)); got != e.want {
					t.Fatalf("%v with %v: %v", c.x, e.x, got)
				}
			}
		}
	}
}

// P10.4 (J5, J8): what is not blocked keeps within limits, what is blocked goes beyond one, and what makes no use greater is not blocked.
func TestLimits(t *testing.T) {
	g := rand.New(rand.NewSource(21))
	counts := map[[3]bool]int{}
	walks(t, 22, func(before, after api.Tree, x api.Op, _ api.Errno) {
		was, is := byOwner(before), byOwner(after)
		greater := slices.ContainsFunc(grown(was, is), func(a api.Account) bool { return a.Use.Nodes > 0 || a.Use.Bytes > 0 })
		for range 5 {
			lim := someLimits(g, was)
			blocked := charge.Blocks(before, x, lim)
			fitted, fit := charge.Fits(charge.Of(before), lim), charge.Fits(charge.Of(after), lim)
			if blocked != blocks(was, is, lim) || fitted != fits(was, lim) || fit != fits(is, lim) {
				t.Fatalf("%v of %v with %v: %v, %v, %v", x, was, lim, blocked, fitted, fit)
			}
			if fitted && !blocked && !fit || blocked && fit || blocked && !greater {
				t.Fatalf("%v of %v with %v: %v, %v, %v", x, was, lim, blocked, fitted, fit)
			}
			counts[[3]bool{greater, fitted, blocked}]++
		}
	})
	for _, which := range [][3]bool{{true, true, true}, {true, true, false}, {true, false, true}, {true, false, false}, {false, true, false}, {false, false, false}} {
		if counts[which] < 300 {
			t.Errorf("what was greater, fitted before, and was blocked: %v", counts)
		}
	}
}

// P10.1, P10.8 (J6): limits in the place of others, before, between and behind them.
func TestSet(t *testing.T) {
	lim := limits(limit(0, 1, 1), limit(5, 2, 2), limit(9, 3, 3))
	for _, e := range []struct {
		x    api.Limit
		want []api.Limit
	}{
		{limit(-1, 7, 8), limits(limit(-1, 7, 8), limit(0, 1, 1), limit(5, 2, 2), limit(9, 3, 3))},
		{limit(0, 7, 8), limits(limit(0, 7, 8), limit(5, 2, 2), limit(9, 3, 3))},
		{limit(1, 7, 8), limits(limit(0, 1, 1), limit(1, 7, 8), limit(5, 2, 2), limit(9, 3, 3))},
		{limit(5, 0, 0), limits(limit(0, 1, 1), limit(5, 0, 0), limit(9, 3, 3))},
		{limit(8, 0, 7), limits(limit(0, 1, 1), limit(5, 2, 2), limit(8, 0, 7), limit(9, 3, 3))},
		{limit(9, 3, 3), lim},
		{limit(9, math.MaxInt, math.MaxInt), limits(limit(0, 1, 1), limit(5, 2, 2), limit(9, math.MaxInt, math.MaxInt))},
		{limit(10, 7, 0), limits(limit(0, 1, 1), limit(5, 2, 2), limit(9, 3, 3), limit(10, 7, 0))},
		{limit(999, 7, 8), limits(limit(0, 1, 1), limit(5, 2, 2), limit(9, 3, 3), limit(999, 7, 8))},
	} {
		if got, err := charge.Set(lim, e.x); !slices.Equal(got, e.want) || err != api.OK {
			t.Errorf("%v: %v, %v", e.x, got, err)
		}
	}
	for _, owner := range []int{-1, 0, 1, 999} {
		if got, err := charge.Set(nil, limit(owner, 0, 0)); !slices.Equal(got, limits(limit(owner, 0, 0))) || err != api.OK {
			t.Errorf("the first one, %d: %v, %v", owner, got, err)
		}
	}
}

// row returns n limits, of Everyone, 0, 2, 4 and so on.
func row(n int) []api.Limit {
	lim := limits(limit(api.Everyone, 9, 9))
	for i := range n - 1 {
		lim = append(lim, limit(2*i, i, 9))
	}
	return lim[:n]
}

// P10.1, P10.8 (J6): the 16th limit, and the 17th one; those of others are still replaced.
func TestSetMany(t *testing.T) {
	for _, owner := range []int{1, 13, 999} {
		got, err := charge.Set(row(15), limit(owner, 7, 8))
		if len(got) != 16 || !slices.Contains(got, limit(owner, 7, 8)) || err != api.OK {
			t.Errorf("the 16th one, %d: %v, %v", owner, got, err)
		}
	}
	if got, err := charge.Set(row(16)[1:], limit(api.Everyone, 9, 9)); !slices.Equal(got, row(16)) || err != api.OK {
		t.Errorf("the 16th one, of Everyone: %v, %v", got, err)
	}
	for _, n := range []int{16, 17, 40} {
		for _, owner := range []int{1, 13, 15, 999} {
			if got, err := charge.Set(row(n), limit(owner, 7, 8)); !slices.Equal(got, row(n)) || err != api.ErrBig {
				t.Errorf("one more than %d, %d: %v, %v", n, owner, got, err)
			}
		}
		if got, err := charge.Set(row(n)[1:], limit(api.Everyone, 7, 8)); n > 16 && (!slices.Equal(got, row(n)[1:]) || err != api.ErrBig) {
			t.Errorf("one more than %d, of Everyone: %v, %v", n-1, got, err)
		}
		for i, x := range row(n) {
			want := row(n)
			want[i] = limit(x.Owner, 77, 78)
			if got, err := charge.Set(row(n), want[i]); !slices.Equal(got, want) || err != api.OK {
				t.Errorf("%v of %d: %v, %v", want[i], n, got, err)
			}
		}
	}
}

// P10.1 (J6): owners that are nobody, and negative numbers, with few limits, and with as many as there may be.
func TestSetInvalid(t *testing.T) {
	var l []api.Limit
	for _, owner := range odd {
		if owner != api.Everyone {
			l = append(l, limit(owner, 1, 1), limit(owner, -1, 1))
		}
	}
	for _, owner := range []int{api.Everyone, 0, 1, 2, 5, 999, 1000} {
		for _, n := range []int{-1, -2, math.MinInt} {
			l = append(l, limit(owner, n, 1), limit(owner, 1, n), limit(owner, n, n))
		}
	}
	for _, x := range l {
		for _, n := range []int{1, 2, 15, 16, 17} {
			if got, err := charge.Set(row(n), x); !slices.Equal(got, row(n)) || err != api.ErrArg {
				t.Errorf("%v with %d: %v, %v", x, n, got, err)
			}
		}
		if got, err := charge.Set(nil, x); len(got) > 0 || err != api.ErrArg {
			t.Errorf("%v alone: %v, %v", x, got, err)
		}
	}
}

// P10.8 (J6): a limit that is set replaces the one before, and no other one; a long way of setting.
func TestSetAgainAndAgain(t *testing.T) {
	g := rand.New(rand.NewSource(23))
	counts := map[api.Errno]int{}
	for range 300 {
		var lim []api.Limit
		kept := map[int]api.Use{}
		for range 60 {
			x := limit(g.Intn(23)-2, g.Intn(20)-1, g.Intn(20)-1)
			want := api.OK
			_, is := kept[x.Owner]
			if x.Owner < -1 || x.Max.Nodes < 0 || x.Max.Bytes < 0 {
				want = api.ErrArg
			} else if !is && len(kept) == 16 {
				want = api.ErrBig
			} else {
				kept[x.Owner] = x.Max
			}
			got, err := charge.Set(lim, x)
			if err != want || len(got) != len(kept) || !slices.IsSortedFunc(got, func(a, b api.Limit) int { return a.Owner - b.Owner }) {
				t.Fatalf("%v to %v: %v, %v, not %v", x, lim, got, err, want)
			}
			for _, y := range got {
				if y.Max != kept[y.Owner] {
					t.Fatalf("%v to %v: %v", x, lim, got)
				}
			}
			lim = got
			counts[err]++
		}
	}
	if counts[api.OK] < 1000 || counts[api.ErrArg] < 1000 || counts[api.ErrBig] < 1000 {
		t.Errorf("the errors were %v", counts)
	}
}

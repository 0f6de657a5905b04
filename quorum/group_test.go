package quorum_test

import (
	"math"
	"math/bits"
	"math/rand"
	"slices"
	"testing"

	"burgage/api"
	"burgage/quorum"
)

// P15.1 (O1), and P1 of the document: groups of 1 to 7 servers, and no others.
func TestNew(t *testing.T) {
	for n := -10; n <= 20; n++ {
		g, e := quorum.New(n)
		if n < 1 || n > 7 {
			if e != api.ErrArg || len(g.Servers) != 0 || g.Lead != 0 {
				t.Errorf("New(%d): %s, %v", n, textOf(g), e)
			}
			continue
		}
		want := api.Group{Lead: -1}
		for range n {
			want.Servers = append(want.Servers, api.Server{Up: true})
		}
		if e != api.OK || !equalGroups(g, want) || !quorum.Valid(g) || len(quorum.Decided(g)) > 0 {
			t.Errorf("New(%d): %s, %v", n, textOf(g), e)
		}
	}
	for _, n := range odd {
		if g, e := quorum.New(n); n != 7 && (e != api.ErrArg || len(g.Servers) != 0 || g.Lead != 0) {
			t.Errorf("New(%d): %s, %v", n, textOf(g), e)
		}
	}
}

// valid looks whether Valid says what is expected, and the model, too.
func valid(t *testing.T, want bool, g api.Group) {
	t.Helper()
	if got := quorum.Valid(g); got != want || validGroup(g) != want {
		t.Errorf("%s: %v, and the model %v, not %v", textOf(g), got, validGroup(g), want)
	}
}

// P15.1 (O1): how many servers, and who leads.
func TestValidServers(t *testing.T) {
	valid(t, false, api.Group{})
	valid(t, false, api.Group{Lead: -1})
	for n := 1; n <= 12; n++ {
		g := api.Group{Lead: -1}
		for i := range n {
			g.Servers = append(g.Servers, up(i, i, "", 0, 0))
		}
		valid(t, n <= 7, g)
		for i := range n {
			g.Lead = i
			valid(t, n <= 7, g)
			g.Servers[i].Up = false
			valid(t, false, g)
			g.Lead = -1
			valid(t, n <= 7, g)
		}
	}
	for n := 1; n <= 7; n++ {
		g := created(t, n)
		for _, lead := range append([]int{-3, n, n + 1, 2 * n}, odd...) {
			if lead != -1 {
				g.Lead = lead
				valid(t, false, g)
			}
		}
	}
}

// P15.1 (O1): each rule for a server, for each server of a group.
func TestValidServer(t *testing.T) {
	most := math.MaxInt
	for _, s := range []struct {
		is bool
		s  api.Server
	}{
		{true, fresh()},
		{true, up(1, 0, "", 0, 0)},
		{true, up(most, 3, "1:5", 1, 1)},
		{false, up(-1, 0, "", 0, 0)},
		{false, up(math.MinInt, 0, "", 0, 0)},
		{true, up(0, 3, "", 0, 0)},
		{false, up(0, 4, "", 0, 0)},
		{false, up(9, 8, "", 0, 0)},
		{false, up(0, most, "", 0, 0)},
		{false, up(0, -1, "", 0, 0)},
		{false, up(5, math.MinInt, "", 0, 0)},
		{true, up(2, 1, "1:0 1:5 2:5 2:0", 4, 4)},
		{true, up(3, 1, "1:0 1:5 2:5 3:0", 3, 0)},
		{true, up(3, 1, "2:0 2:5", 1, 1)},
		{true, up(3, 1, "3:0 3:5", 0, 0)},
		{false, up(0, 1, "1:5", 0, 0)},
		{false, up(0, 1, "0:5", 0, 0)},
		{false, up(3, 1, "0:5", 1, 1)},
		{false, up(3, 1, "-1:5", 1, 1)},
		{false, up(3, 1, "0:5 1:5", 1, 1)},
		{false, up(3, 1, "1:5 4:5", 1, 1)},
		{false, up(3, 1, "4:5", 1, 1)},
		{false, up(3, 1, "4:5 3:5", 1, 1)},
		{false, up(3, 1, "2:5 1:5", 1, 1)},
		{false, up(3, 1, "1:5 2:5 1:5", 1, 1)},
		{false, up(3, 1, "1:5 3:5 2:5", 1, 1)},
		{false, up(3, 1, "1:5 3:5 2:5 3:5", 1, 1)},
		{false, up(3, 1, "1:-1", 1, 1)},
		{false, up(3, 1, "1:5 1:-1", 1, 1)},
		{false, up(3, 1, "1:5 1:-1 1:5", 1, 1)},
		{true, with(up(3, 1, "", 0, 0), []api.Slot{{Term: 1, Rec: most}, {Term: 3, Rec: 0}})},
		{true, up(most, 1, "9223372036854775807:9", 1, 0)},
		{false, up(most-1, 1, "9223372036854775807:9", 1, 0)},
		{true, with(up(1, 1, "", 200, 200), many(200))},
		{true, with(up(1, 1, "", 199, 0), many(199))},
		{false, with(up(1, 1, "", 201, 201), many(201))},
		{false, with(up(1, 1, "", 0, 0), many(201))},
		{true, up(1, 1, "1:5 1:6", 0, 0)},
		{true, up(1, 1, "1:5 1:6", 1, 0)},
		{true, up(1, 1, "1:5 1:6", 2, 0)},
		{true, up(1, 1, "1:5 1:6", 2, 1)},
		{false, up(1, 1, "1:5 1:6", 3, 0)},
		{false, up(1, 1, "1:5 1:6", 3, 3)},
		{false, up(1, 1, "1:5 1:6", most, 0)},
		{false, up(1, 1, "1:5 1:6", 1, 2)},
		{false, up(1, 1, "1:5 1:6", 0, 1)},
		{false, up(1, 1, "1:5 1:6", 2, 3)},
		{false, up(1, 1, "1:5 1:6", 2, -1)},
		{false, up(1, 1, "1:5 1:6", 0, -1)},
		{false, up(1, 1, "1:5 1:6", -1, -1)},
		{false, up(1, 1, "1:5 1:6", -1, 0)},
		{false, up(1, 1, "1:5 1:6", math.MinInt, math.MinInt)},
		{false, up(1, 1, "", 1, 0)},
		{false, up(1, 1, "", 1, 1)},
	} {
		other := up(9, 2, "1:5 3:5", 2, 1)
		for i := range 3 {
			g := group(-1, other, other, other)
			g.Servers[i] = s.s
			valid(t, s.is, g)
			g.Servers[i].Up = false
			valid(t, s.is, g)
		}
		g := group(0, s.s)
		valid(t, s.is && s.s.Vote <= 1, g)
	}
}

// P15.1 (O1): groups with one or two faults, or none.
func TestValidAny(t *testing.T) {
	g := rand.New(rand.NewSource(2))
	right, wrong := 0, 0
	for range 60000 {
		of := someGroup(g)
		valid(t, true, of)
		for range 1 + g.Intn(2) {
			s := &of.Servers[g.Intn(len(of.Servers))]
			fields := []*int{&of.Lead, &s.Term, &s.Vote, &s.Sure, &s.Done}
			if len(s.Log) > 0 {
				s.Log = slices.Clone(s.Log)
				x := &s.Log[g.Intn(len(s.Log))]
				fields = append(fields, &x.Term, &x.Rec)
			}
			*pick(g, fields) += g.Intn(5) - 2
			s.Up = s.Up != (g.Intn(5) == 0)
		}
		is := validGroup(of)
		if valid(t, is, of); is {
			right++
		} else {
			wrong++
		}
	}
	if right < 10000 || wrong < 10000 {
		t.Errorf("%d were right, %d wrong", right, wrong)
	}
}

// P15.1 (O3): which server, and which of its slots.
func TestDecided(t *testing.T) {
	a, b := up(2, 1, "1:5 1:6 2:7", 3, 2), up(2, 1, "1:8 1:9", 2, 2)
	for _, s := range []struct {
		g    api.Group
		want []int
	}{
		{group(-1, fresh()), nil},
		{group(-1, fresh(), fresh(), fresh()), nil},
		{group(1, up(2, 1, "1:5", 1, 0), up(2, 1, "1:6", 1, 0)), nil},
		{group(-1, a), []int{5, 6}},
		{group(-1, b, a), []int{8, 9}},
		{group(1, a, b), []int{5, 6}},
		{group(1, fresh(), b, fresh(), a), []int{8, 9}},
		{group(1, up(2, 1, "1:5 1:6", 2, 1), b), []int{8, 9}},
		{group(0, a, up(2, 1, "1:5 1:6 2:7", 3, 3)), []int{5, 6, 7}},
		{group(0, a, up(2, 1, "1:5 1:6 2:7", 3, 3), b), []int{5, 6, 7}},
		{group(2, up(2, 1, "1:1", 1, 1), down(2, 1, "1:0 1:0", 2, 2), fresh()), []int{0, 0}},
		{group(2, up(2, 1, "1:1", 1, 1), up(2, 1, "1:2", 1, 1), up(2, 1, "1:3", 1, 1)), []int{1}},
		{group(-1, with(up(1, 1, "", 1, 1), many(1)), with(up(1, 1, "", 200, 200), many(200))), recsOf(many(200))},
	} {
		if got := quorum.Decided(s.g); !quorum.Valid(s.g) || !slices.Equal(got, s.want) || !slices.Equal(records(s.g), s.want) {
			t.Errorf("%s: %v, not %v", textOf(s.g), got, s.want)
		}
	}
	g := rand.New(rand.NewSource(3))
	alike := 0
	for range 30000 {
		of := someGroup(g)
		want := records(of)
		if got := quorum.Decided(of); !slices.Equal(got, want) {
			t.Fatalf("%s: %v, not %v", textOf(of), got, want)
		}
		slices.Reverse(of.Servers)
		if len(want) > 0 && slices.Equal(records(of), want) {
			alike++
		}
	}
	if alike < 5000 || alike > 25000 {
		t.Errorf("%d have the same records when they are turned round", alike)
	}
}

func recsOf(l []api.Slot) []int {
	var recs []int
	for _, s := range l {
		recs = append(recs, s.Rec)
	}
	return recs
}

// P15.1 (O4): the records that are decided count, and nothing else of a group.
func TestKept(t *testing.T) {
	none, one := group(-1, fresh(), fresh()), group(1, up(1, 1, "1:5 1:6", 2, 1), up(1, 1, "1:5", 1, 0))
	two, three := group(-1, up(3, 0, "", 0, 0), up(2, 1, "1:5 1:6", 2, 2)), group(0, up(2, 0, "1:5 1:6 2:7", 3, 3), down(1, 1, "1:5", 1, 1))
	chain := []api.Group{none, one, two, three}
	for i, a := range chain {
		for j, b := range chain {
			if got := quorum.Kept(a, b); got != (i <= j) {
				t.Errorf("%s, then %s: %v", textOf(a), textOf(b), got)
			}
		}
	}
	for _, s := range []struct {
		a, b string
		is   bool
	}{
		{"1:5", "1:6", false},
		{"1:5", "2:5", true},
		{"1:5", "1:6 1:5", false},
		{"1:5 1:6", "1:6 1:5", false},
		{"1:5 1:6", "1:5 1:7", false},
		{"1:5 1:6", "1:5 1:7 1:6", false},
		{"1:5 1:6", "1:5 1:6 1:6", true},
		{"1:5 1:5", "1:5", false},
		{"1:5 1:6 1:7", "1:5 1:9 1:7", false},
		{"1:0", "", false},
		{"", "1:0", true},
		{"1:0", "1:0 1:0", true},
	} {
		m, n := len(slots(s.a)), len(slots(s.b))
		if got := quorum.Kept(group(-1, up(2, 0, s.a, m, m)), group(0, up(3, 1, s.b, n, n))); got != s.is {
			t.Errorf("%q, then %q: %v", s.a, s.b, got)
		}
	}
	g := rand.New(rand.NewSource(4))
	kept, lost := 0, 0
	for range 30000 {
		a, b := someGroup(g), someGroup(g)
		if c, _ := after(a, someEvent(g, a)); g.Intn(2) == 0 && validGroup(c) {
			b = c
		}
		was, is := records(a), records(b)
		want := len(was) <= len(is) && slices.Equal(was, is[:len(was)])
		if got := quorum.Kept(a, b); got != want {
			t.Fatalf("%s, then %s: %v", textOf(a), textOf(b), got)
		}
		if want {
			kept++
		} else {
			lost++
		}
	}
	if kept < 5000 || lost < 5000 {
		t.Errorf("%d were kept, %d lost", kept, lost)
	}
}

// P15.1 (O5): all sets of few servers, and numbers of any kind.
func TestMost(t *testing.T) {
	for n := -3; n <= 12; n++ {
		for of := range 1 << 13 {
			votes := 0
			for i := range max(n, 0) {
				votes += of >> i & 1
			}
			want := n >= 1 && n <= 7 && 2*votes > n
			for _, x := range []int{of, of | 1<<13, of | 1<<62, of | math.MinInt, of | ^(1<<13 - 1)} {
				if got := quorum.Most(n, x); got != want {
					t.Fatalf("Most(%d, %d): %v", n, x, got)
				}
			}
		}
	}
	g := rand.New(rand.NewSource(5))
	for range 20000 {
		n, of := pick(g, odd), int(g.Uint64())
		if g.Intn(2) == 0 {
			n = g.Intn(12) - 2
		}
		if g.Intn(4) == 0 {
			of = pick(g, odd)
		}
		want := false
		if n >= 1 && n <= 7 {
			want = bits.OnesCount64(uint64(of)<<(64-n)) > n/2
		}
		if got := quorum.Most(n, of); got != want {
			t.Fatalf("Most(%d, %d): %v", n, of, got)
		}
	}
}

// P15.6: two majorities have a server in common.
func TestMajorities(t *testing.T) {
	for n := 1; n <= 7; n++ {
		found := 0
		for a := range 1 << n {
			for b := range 1 << n {
				if quorum.Most(n, a) && quorum.Most(n, b) {
					if found++; a&b == 0 {
						t.Fatalf("of %d servers, %b and %b", n, a, b)
					}
				}
			}
		}
		if all := 1 << n; found == 0 || n%2 == 1 && found != all/2*all/2 || !quorum.Most(n, all-1) || quorum.Most(n, 0) {
			t.Errorf("of %d servers, %d pairs", n, found)
		}
	}
}

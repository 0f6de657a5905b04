package quorum_test

import (
	"math"
	"math/rand"
	"testing"

	"burgage/api"
	"burgage/quorum"
)

// step is an event, with the group before it and the one after it, or an error.
type step struct {
	name   string
	before api.Group
	x      api.Event
	after  api.Group
	e      api.Errno
}

// check does the event, and looks whether the result is right, also that of the model.
func (s step) check(t *testing.T) {
	t.Helper()
	if !quorum.Valid(s.before) {
		t.Fatalf("%s: %s is not valid", s.name, textOf(s.before))
	}
	want := s.after
	if s.e != api.OK {
		want = s.before
	}
	if got, e := quorum.Do(s.before, s.x); e != s.e || !equalGroups(got, want) {
		t.Errorf("%s: %+v\nof  %s:\n    %s, %v, not\n    %s, %v", s.name, s.x, textOf(s.before), textOf(got), e, textOf(want), s.e)
	}
	if got, e := after(s.before, s.x); e != s.e || !equalGroups(got, want) {
		t.Errorf("%s: the model has %s, %v", s.name, textOf(got), e)
	}
}

// fresh is a server that is up, and has nothing.
func fresh() api.Server { return up(0, 0, "", 0, 0) }

// P15.1 (Events): an event of a server that is not there, or, but for Start, that is not up, is refused before anything else.
func TestWhoIsThere(t *testing.T) {
	g := group(1, down(1, 2, "1:5", 1, 1), up(1, 2, "1:5 1:6", 2, 1), down(0, 0, "", 0, 0))
	for _, kind := range append([]int{0, 8, 9, 100}, append(odd, kinds...)...) {
		for _, a := range []int{-1, 3, 4, 6, -2, -64, 64, 1 << 32, math.MinInt, math.MaxInt} {
			step{"no server", g, api.Event{Kind: kind, A: a, B: 1, N: -1, Of: 2}, g, api.ErrServer}.check(t)
		}
		for _, a := range []int{0, 2} {
			if kind != api.Start {
				step{"not up", g, api.Event{Kind: kind, A: a, B: 1, N: -1, Of: 2}, g, api.ErrServer}.check(t)
			}
		}
	}
	alone := group(0, up(3, 1, "", 0, 0))
	step{"of one", alone, sync(1), alone, api.ErrServer}.check(t)
	step{"of one", alone, start(1), alone, api.ErrServer}.check(t)
	step{"of one", alone, start(-1), alone, api.ErrServer}.check(t)
}

// P15.1 (Events): other kinds are refused.
func TestOtherKinds(t *testing.T) {
	g := group(1, down(1, 2, "1:5", 1, 1), up(1, 2, "1:5 1:6", 1, 1), up(1, 2, "", 0, 0))
	for _, kind := range []int{0, 8, 9, 15, 100, -1, -3, math.MinInt, math.MaxInt} {
		for a := range 3 {
			e := api.ErrArg
			if a == 0 {
				e = api.ErrServer
			}
			step{"another kind", g, api.Event{Kind: kind, A: a, B: 2, N: 1, Of: 7}, g, e}.check(t)
		}
	}
}

// P15.1 (Elect): who votes.
func TestElectVotes(t *testing.T) {
	a := up(2, 0, "1:5 2:6", 1, 0) // becomes 3, 1
	to := up(3, 1, "1:5 2:6", 1, 0)
	for _, s := range []struct {
		name          string
		before, after api.Server
		votes         bool
	}{
		{"a lesser term", up(1, 2, "1:5", 1, 1), up(3, 1, "1:5", 1, 1), true},
		{"a term that is less by 1", up(2, 2, "", 0, 0), up(3, 1, "", 0, 0), true},
		{"the same term, no vote", up(3, 0, "1:9", 0, 0), up(3, 1, "1:9", 0, 0), true},
		{"the same term, a vote for A", up(3, 1, "1:9", 0, 0), up(3, 1, "1:9", 0, 0), true},
		{"the same term, a vote for itself", up(3, 2, "1:9", 0, 0), up(3, 2, "1:9", 0, 0), false},
		{"the same term, a vote for a third one", up(3, 3, "1:9", 0, 0), up(3, 3, "1:9", 0, 0), false},
		{"a greater term", up(4, 0, "", 0, 0), up(4, 0, "", 0, 0), false},
		{"a greater term, a vote for A", up(4, 1, "", 0, 0), up(4, 1, "", 0, 0), false},
		{"not up", down(1, 0, "", 0, 0), down(1, 0, "", 0, 0), false},
		{"not up, the same term", down(3, 1, "", 0, 0), down(3, 1, "", 0, 0), false},
		{"an empty log", fresh(), up(3, 1, "", 0, 0), true},
		{"the same log", up(2, 0, "1:5 2:6", 2, 0), up(3, 1, "1:5 2:6", 2, 0), true},
		{"other records", up(2, 0, "2:8 2:9", 2, 1), up(3, 1, "2:8 2:9", 2, 1), true},
		{"a longer log", up(2, 0, "1:5 2:6 2:7", 2, 0), up(3, 0, "1:5 2:6 2:7", 2, 0), false},
		{"a longer log of an older term", up(2, 0, "1:5 1:6 1:7 1:8", 4, 2), up(3, 1, "1:5 1:6 1:7 1:8", 4, 2), true},
		{"a shorter log of a newer term", up(3, 0, "3:5", 0, 0), up(3, 0, "3:5", 0, 0), false},
		{"a longer log of a newer term", up(3, 1, "1:5 2:6 3:7", 0, 0), up(3, 1, "1:5 2:6 3:7", 0, 0), false},
		{"a shorter log", up(1, 3, "1:5", 1, 0), up(3, 1, "1:5", 1, 0), true},
		{"a better log, and a lesser term", up(2, 3, "2:5 2:6 2:7", 3, 0), up(3, 0, "2:5 2:6 2:7", 3, 0), false},
	} {
		third, lead := up(9, 3, "", 0, 0), -1
		if s.votes {
			lead = 0
		}
		for _, of := range []int{2, 3, 2 | 8, 2 | 1<<40, -1 &^ 4, math.MinInt | 2} {
			step{s.name, group(-1, a, s.before, third), elect(0, of), group(lead, to, s.after, third), api.OK}.check(t)
		}
		for _, of := range []int{0, 1, 8, -8, 1 << 40, math.MinInt} {
			step{s.name + ", not asked", group(-1, a, s.before, third), elect(0, of), group(-1, to, s.before, third), api.OK}.check(t)
		}
	}
	// A with an empty log, and of a term without slots.
	step{"both empty", group(-1, up(5, 2, "", 0, 0), up(4, 1, "", 0, 0)), elect(0, 2), group(0, up(6, 1, "", 0, 0), up(6, 1, "", 0, 0)), api.OK}.check(t)
	step{"a log against none", group(-1, up(5, 2, "", 0, 0), up(4, 1, "1:7", 0, 0)), elect(0, 2), group(-1, up(6, 1, "", 0, 0), up(6, 0, "1:7", 0, 0)), api.OK}.check(t)
	step{"what is not on disks counts", group(-1, up(5, 2, "1:1", 0, 0), up(4, 1, "1:7 1:8", 0, 0)), elect(0, 2), group(-1, up(6, 1, "1:1", 0, 0), up(6, 0, "1:7 1:8", 0, 0)), api.OK}.check(t)
}

// P15.1 (Elect): a majority of all servers is needed, up or not.
func TestElectMajority(t *testing.T) {
	for n := 1; n <= 7; n++ {
		for of := range 1 << n {
			for a := range n {
				g, want := api.Group{Lead: -1}, api.Group{Lead: -1}
				for i := range n {
					g.Servers = append(g.Servers, fresh())
					want.Servers = append(want.Servers, fresh())
					if i == a || of>>i&1 == 1 {
						want.Servers[i] = up(1, a+1, "", 0, 0)
					}
				}
				votes := 1
				for i := range n {
					if i != a {
						votes += of >> i & 1
					}
				}
				if votes*2 > n {
					want.Lead = a
				}
				step{"all are up", g, elect(a, of), want, api.OK}.check(t)
				step{"bits of no servers", g, elect(a, of|1<<n|1<<50), want, api.OK}.check(t)
			}
		}
	}
	alone := group(-1, up(7, 0, "3:1", 0, 0))
	for _, of := range append([]int{0, 1, 2, 3}, odd...) {
		step{"one alone", alone, elect(0, of), group(0, up(8, 1, "3:1", 0, 0)), api.OK}.check(t)
	}
	step{"one of two", group(-1, fresh(), down(0, 0, "", 0, 0)), elect(0, 3), group(-1, up(1, 1, "", 0, 0), down(0, 0, "", 0, 0)), api.OK}.check(t)
	step{"two of four", group(-1, fresh(), fresh(), down(0, 0, "", 0, 0), up(8, 0, "", 0, 0)), elect(1, -1), group(-1, up(1, 2, "", 0, 0), up(1, 2, "", 0, 0), down(0, 0, "", 0, 0), up(8, 0, "", 0, 0)), api.OK}.check(t)
	late := math.MaxInt - 1
	step{"the last term", group(-1, up(late, 0, "", 0, 0), up(late-1, 2, "", 0, 0)), elect(0, 2), group(0, up(late+1, 1, "", 0, 0), up(late+1, 1, "", 0, 0)), api.OK}.check(t)
}

// P15.1 (Elect): what becomes of the leader.
func TestElectLeader(t *testing.T) {
	for _, s := range []step{
		{"the leader once more", group(0, up(1, 1, "", 0, 0), fresh(), fresh()), elect(0, 4), group(0, up(2, 1, "", 0, 0), fresh(), up(2, 1, "", 0, 0)), api.OK},
		{"the leader without others", group(0, up(1, 1, "", 0, 0), fresh(), fresh()), elect(0, 0), group(-1, up(2, 1, "", 0, 0), fresh(), fresh()), api.OK},
		{"the leader without a majority", group(1, up(9, 0, "", 0, 0), up(1, 2, "", 0, 0), down(1, 2, "", 0, 0)), elect(1, 7), group(-1, up(9, 0, "", 0, 0), up(2, 2, "", 0, 0), down(1, 2, "", 0, 0)), api.OK},
		{"another one", group(0, up(1, 1, "", 0, 0), up(1, 1, "", 0, 0), fresh()), elect(1, 4), group(1, up(1, 1, "", 0, 0), up(2, 2, "", 0, 0), up(2, 2, "", 0, 0)), api.OK},
		{"another one by the leader", group(0, up(1, 1, "", 0, 0), up(1, 1, "", 0, 0), fresh()), elect(1, 1), group(1, up(2, 2, "", 0, 0), up(2, 2, "", 0, 0), fresh()), api.OK},
		{"the leader is not asked", group(0, up(1, 1, "", 0, 0), up(1, 1, "", 0, 0), fresh()), elect(1, 0), group(0, up(1, 1, "", 0, 0), up(2, 2, "", 0, 0), fresh()), api.OK},
		{"the leader is not asked, but another one, in vain", group(0, up(1, 1, "", 0, 0), fresh(), up(1, 1, "1:7", 0, 0)), elect(1, 4), group(0, up(1, 1, "", 0, 0), up(1, 2, "", 0, 0), up(1, 1, "1:7", 0, 0)), api.OK},
		{"the term of the leader grows", group(0, up(1, 1, "1:7", 0, 0), up(1, 1, "", 0, 0), fresh()), elect(1, 1), group(-1, up(2, 0, "1:7", 0, 0), up(2, 2, "", 0, 0), fresh()), api.OK},
		{"the leader votes, but there are not enough", group(0, up(1, 1, "", 0, 0), up(1, 1, "", 0, 0), fresh(), fresh()), elect(1, 1), group(-1, up(2, 2, "", 0, 0), up(2, 2, "", 0, 0), fresh(), fresh()), api.OK},
		{"the leader has the same term", group(0, up(2, 1, "2:7", 0, 0), up(1, 1, "", 0, 0), fresh()), elect(1, 1), group(0, up(2, 1, "2:7", 0, 0), up(2, 2, "", 0, 0), fresh()), api.OK},
		{"the leader has the same term and no vote", group(0, up(2, 0, "", 0, 0), up(1, 1, "", 0, 0), fresh(), fresh()), elect(1, 1), group(0, up(2, 2, "", 0, 0), up(2, 2, "", 0, 0), fresh(), fresh()), api.OK},
		{"the leader has a greater term", group(0, up(5, 1, "", 0, 0), up(1, 1, "", 0, 0), fresh()), elect(1, 1), group(0, up(5, 1, "", 0, 0), up(2, 2, "", 0, 0), fresh()), api.OK},
		{"the term of another one grows", group(2, up(1, 1, "1:7", 0, 0), up(1, 1, "", 0, 0), up(5, 1, "", 0, 0)), elect(1, 5), group(2, up(2, 0, "1:7", 0, 0), up(2, 2, "", 0, 0), up(5, 1, "", 0, 0)), api.OK},
		{"nobody leads", group(-1, up(1, 1, "1:7", 0, 0), up(1, 0, "", 0, 0), fresh()), elect(1, 1), group(-1, up(2, 0, "1:7", 0, 0), up(2, 2, "", 0, 0), fresh()), api.OK},
		{"the last one leads", group(2, up(1, 1, "1:7", 0, 0), up(1, 1, "1:7", 0, 0), up(1, 1, "1:7 1:8", 2, 0)), elect(0, 6), group(0, up(2, 1, "1:7", 0, 0), up(2, 1, "1:7", 0, 0), up(2, 0, "1:7 1:8", 2, 0)), api.OK},
	} {
		s.check(t)
	}
}

// P15.1 (Propose): the errors, in their order, and what is added.
func TestPropose(t *testing.T) {
	full := with(up(3, 1, "", 0, 0), many(200))
	room := with(up(3, 1, "", 150, 2), many(199))
	last := with(room, append(many(199), api.Slot{Term: 3, Rec: 9}))
	for _, s := range []step{
		{"a first slot", group(0, up(1, 1, "", 0, 0), fresh()), propose(0, 7), group(0, up(1, 1, "1:7", 0, 0), fresh()), api.OK},
		{"a later slot", group(1, fresh(), up(4, 0, "1:2 1:3", 2, 1)), propose(1, 0), group(1, fresh(), up(4, 0, "1:2 1:3 4:0", 2, 1)), api.OK},
		{"the same record again", group(0, up(1, 1, "1:7", 1, 0)), propose(0, 7), group(0, up(1, 1, "1:7 1:7", 1, 0)), api.OK},
		{"a great number", group(0, up(1, 1, "1:7", 1, 0)), propose(0, math.MaxInt), group(0, with(up(1, 1, "", 1, 0), []api.Slot{{Term: 1, Rec: 7}, {Term: 1, Rec: math.MaxInt}})), api.OK},
		{"another one leads", group(1, fresh(), up(1, 2, "", 0, 0)), propose(0, 7), api.Group{}, api.ErrServer},
		{"nobody leads", group(-1, fresh(), up(1, 2, "", 0, 0)), propose(0, 7), api.Group{}, api.ErrServer},
		{"nobody leads, a negative number", group(-1, fresh()), propose(0, -1), api.Group{}, api.ErrServer},
		{"nobody leads, no room", group(-1, full), propose(0, 9), api.Group{}, api.ErrServer},
		{"a negative number", group(0, up(1, 1, "", 0, 0)), propose(0, -1), api.Group{}, api.ErrArg},
		{"the least number", group(0, up(1, 1, "", 0, 0)), propose(0, math.MinInt), api.Group{}, api.ErrArg},
		{"a negative number, no room", group(0, full), propose(0, -1), api.Group{}, api.ErrArg},
		{"200 slots", group(0, full), propose(0, 9), api.Group{}, api.ErrBig},
		{"199 slots", group(0, room), propose(0, 9), group(0, last), api.OK},
		{"200 slots of another one", group(1, full, room), propose(1, 9), group(1, full, last), api.OK},
	} {
		s.check(t)
	}
}

// P15.1 (Copy): who copies to whom, and their terms.
func TestCopyTerms(t *testing.T) {
	a := up(3, 1, "1:5 3:6", 1, 1)
	for _, s := range []step{
		{"to itself", group(0, a, fresh()), send(0, 0), api.Group{}, api.ErrServer},
		{"to none", group(0, a, fresh()), send(0, -1), api.Group{}, api.ErrServer},
		{"to the number of servers", group(0, a, fresh()), send(0, 2), api.Group{}, api.ErrServer},
		{"to a great number", group(0, a, fresh()), send(0, math.MaxInt), api.Group{}, api.ErrServer},
		{"to the least number", group(0, a, fresh()), send(0, math.MinInt), api.Group{}, api.ErrServer},
		{"to one that is not up", group(0, a, down(0, 0, "", 0, 0)), send(0, 1), api.Group{}, api.ErrServer},
		{"to one that is not up, with a greater term", group(0, a, down(8, 0, "", 0, 0)), send(0, 1), api.Group{}, api.ErrServer},
		{"nobody leads", group(-1, a, fresh()), send(0, 1), api.Group{}, api.ErrServer},
		{"another one leads", group(1, a, up(1, 1, "", 0, 0)), send(0, 1), api.Group{}, api.ErrServer},
		{"a greater term", group(0, a, up(4, 2, "", 0, 0), fresh()), send(0, 1), group(-1, up(4, 0, "1:5 3:6", 1, 1), up(4, 2, "", 0, 0), fresh()), api.OK},
		{"a far greater term, and another log", group(0, a, up(9, 0, "2:5 2:6 2:7", 3, 0), fresh()), send(0, 1), group(-1, up(9, 0, "1:5 3:6", 1, 1), up(9, 0, "2:5 2:6 2:7", 3, 0), fresh()), api.OK},
		{"a greater term, and the same log", group(0, a, up(4, 2, "1:5 3:6", 2, 0), fresh()), send(0, 1), group(-1, up(4, 0, "1:5 3:6", 1, 1), up(4, 2, "1:5 3:6", 2, 0), fresh()), api.OK},
		{"the same term", group(0, a, up(3, 2, "", 0, 0)), send(0, 1), group(0, a, up(3, 2, "1:5 3:6", 0, 0)), api.OK},
		{"a lesser term", group(0, a, up(2, 2, "", 0, 0)), send(0, 1), group(0, a, up(3, 0, "1:5 3:6", 0, 0)), api.OK},
		{"a far lesser term, and the same log", group(0, a, up(3, 2, "1:5 3:6", 2, 0)), send(0, 1), group(0, a, up(3, 2, "1:5 3:6", 2, 1)), api.OK},
		{"to one before", group(2, fresh(), fresh(), a), send(2, 0), group(2, up(3, 0, "1:5 3:6", 0, 0), fresh(), a), api.OK},
	} {
		s.check(t)
	}
}

// P15.1 (Copy): the log, and what of it is on the disk and decided.
func TestCopyLog(t *testing.T) {
	a := up(3, 1, "1:5 2:6 3:7", 3, 2)
	for _, s := range []struct {
		name          string
		before, after api.Server
	}{
		{"an empty log", up(3, 1, "", 0, 0), up(3, 1, "1:5 2:6 3:7", 0, 0)},
		{"a shorter log, nothing on the disk", up(3, 1, "1:5", 0, 0), up(3, 1, "1:5 2:6 3:7", 0, 0)},
		{"a shorter log, on the disk", up(3, 1, "1:5", 1, 0), up(3, 1, "1:5 2:6 3:7", 1, 1)},
		{"two slots, one on the disk", up(3, 1, "1:5 2:6", 1, 1), up(3, 1, "1:5 2:6 3:7", 1, 1)},
		{"two slots, on the disk", up(3, 1, "1:5 2:6", 2, 0), up(3, 1, "1:5 2:6 3:7", 2, 2)},
		{"the same log, nothing on the disk", up(3, 1, "1:5 2:6 3:7", 0, 0), up(3, 1, "1:5 2:6 3:7", 0, 0)},
		{"the same log, one on the disk", up(3, 1, "1:5 2:6 3:7", 1, 0), up(3, 1, "1:5 2:6 3:7", 1, 1)},
		{"the same log, on the disk", up(3, 1, "1:5 2:6 3:7", 3, 0), up(3, 1, "1:5 2:6 3:7", 3, 2)},
		{"the same log, more is decided", up(3, 1, "1:5 2:6 3:7", 3, 3), up(3, 1, "1:5 2:6 3:7", 3, 3)},
		{"a longer log", up(3, 1, "1:5 2:6 3:7 3:8", 4, 1), up(3, 1, "1:5 2:6 3:7 3:8", 4, 2)},
		{"a longer log, more is decided", up(3, 1, "1:5 2:6 3:7 3:8", 4, 4), up(3, 1, "1:5 2:6 3:7 3:8", 4, 4)},
		{"a longer log, one on the disk", up(3, 1, "1:5 2:6 3:7 3:8", 1, 0), up(3, 1, "1:5 2:6 3:7 3:8", 1, 1)},
		{"another first record, on the disk", up(3, 1, "1:9 2:6 3:7", 3, 0), up(3, 1, "1:5 2:6 3:7", 0, 0)},
		{"another first term", up(3, 1, "2:5 2:6 3:7", 3, 0), up(3, 1, "1:5 2:6 3:7", 0, 0)},
		{"another first record, nothing on the disk", up(3, 1, "1:9 2:6 3:7", 0, 0), up(3, 1, "1:5 2:6 3:7", 0, 0)},
		{"another record in the middle, on the disk", up(3, 1, "1:5 2:9 3:7", 3, 0), up(3, 1, "1:5 2:6 3:7", 1, 1)},
		{"another term in the middle, up to there on the disk", up(3, 1, "1:5 1:6 3:7", 2, 1), up(3, 1, "1:5 2:6 3:7", 1, 1)},
		{"another record in the middle, before it on the disk", up(3, 1, "1:5 2:9 3:7", 1, 0), up(3, 1, "1:5 2:6 3:7", 1, 1)},
		{"another record in the middle, nothing on the disk", up(3, 1, "1:5 2:9 3:7", 0, 0), up(3, 1, "1:5 2:6 3:7", 0, 0)},
		{"another last record, on the disk", up(3, 1, "1:5 2:6 3:9", 3, 0), up(3, 1, "1:5 2:6 3:7", 2, 2)},
		{"another last term, on the disk", up(3, 1, "1:5 2:6 2:7", 3, 0), up(3, 1, "1:5 2:6 3:7", 2, 2)},
		{"another last record, before it on the disk", up(3, 1, "1:5 2:6 3:9", 2, 1), up(3, 1, "1:5 2:6 3:7", 2, 2)},
		{"another last record, one on the disk", up(3, 1, "1:5 2:6 3:9", 1, 1), up(3, 1, "1:5 2:6 3:7", 1, 1)},
		{"a longer log with another last record", up(3, 1, "1:5 2:6 3:9 3:8", 4, 0), up(3, 1, "1:5 2:6 3:7", 2, 2)},
		{"a longer log with another first record", up(3, 1, "1:6 2:6 3:7 3:8", 4, 0), up(3, 1, "1:5 2:6 3:7", 0, 0)},
		{"a shorter log with another record", up(3, 1, "1:5 2:9", 2, 0), up(3, 1, "1:5 2:6 3:7", 1, 1)},
		{"a lesser term", up(1, 3, "1:5 1:6", 2, 1), up(3, 0, "1:5 2:6 3:7", 1, 1)},
		{"a lesser term, and the same beginning", up(2, 3, "1:5 2:6", 2, 2), up(3, 0, "1:5 2:6 3:7", 2, 2)},
	} {
		step{s.name, group(0, a, s.before, fresh()), send(0, 1), group(0, a, s.after, fresh()), api.OK}.check(t)
		step{s.name, group(2, fresh(), s.before, a), send(2, 1), group(2, fresh(), s.after, a), api.OK}.check(t)
	}
	empty := up(3, 1, "", 0, 0)
	step{"from an empty log to none", group(0, empty, fresh()), send(0, 1), group(0, empty, up(3, 0, "", 0, 0)), api.OK}.check(t)
	step{"from an empty log", group(0, empty, up(3, 0, "1:5 2:6", 2, 1)), send(0, 1), group(0, empty, up(3, 0, "1:5 2:6", 2, 1)), api.OK}.check(t)
	full := with(up(3, 1, "", 200, 150), many(200))
	other := with(up(3, 1, "", 190, 60), many(200))
	other.Log[100].Rec = 0
	same := with(up(3, 1, "", 100, 100), many(200))
	step{"200 slots", group(0, full, other), send(0, 1), group(0, full, same), api.OK}.check(t)
}

// P15.1 (Copy): of groups that do not result from New, decided slots can be others than those of the leader; they stay so many.
func TestCopyOfOtherGroups(t *testing.T) {
	g := group(0, up(3, 1, "1:5 2:6 3:7", 3, 1), up(3, 1, "1:5 2:9 3:7", 3, 3))
	if got, e := quorum.Do(g, send(0, 1)); e != api.OK || !equalGroups(got, group(0, g.Servers[0], up(3, 1, "1:5 2:6 3:7", 1, 3))) {
		t.Errorf("%s, %v", textOf(got), e)
	}
}

// P15.1 (Sync).
func TestSync(t *testing.T) {
	for _, s := range []step{
		{"an empty log", group(-1, fresh()), sync(0), group(-1, fresh()), api.OK},
		{"some slots", group(-1, up(1, 0, "1:5 1:6", 0, 0)), sync(0), group(-1, up(1, 0, "1:5 1:6", 2, 0)), api.OK},
		{"one more", group(1, up(1, 0, "1:5 1:6", 1, 1), up(1, 0, "1:5 1:6", 1, 1)), sync(0), group(1, up(1, 0, "1:5 1:6", 2, 1), up(1, 0, "1:5 1:6", 1, 1)), api.OK},
		{"none more", group(1, up(1, 0, "1:5", 1, 1), up(1, 0, "1:5 1:6", 2, 1)), sync(1), group(1, up(1, 0, "1:5", 1, 1), up(1, 0, "1:5 1:6", 2, 1)), api.OK},
		{"200 slots", group(-1, with(up(1, 0, "", 7, 5), many(200))), sync(0), group(-1, with(up(1, 0, "", 200, 5), many(200))), api.OK},
	} {
		s.check(t)
	}
}

// P15.1 (Decide): each row has the leader 0 before it, and its Done after it.
func TestDecide(t *testing.T) {
	type servers []api.Server
	a := up(3, 1, "1:5 3:6 3:7 3:8", 4, 1)
	for _, s := range []struct {
		name string
		a    api.Server
		rest servers
		done int
	}{
		{"alone", a, nil, 4},
		{"alone, not all on the disk", up(3, 1, "1:5 3:6 3:7 3:8", 2, 1), nil, 2},
		{"alone, nothing more on the disk", up(3, 1, "1:5 3:6 3:7 3:8", 1, 1), nil, 1},
		{"alone, nothing", up(3, 1, "", 0, 0), nil, 0},
		{"alone, nothing on the disk", up(3, 1, "3:1", 0, 0), nil, 0},
		{"alone, the first slot", up(3, 1, "3:1", 1, 0), nil, 1},
		{"alone, all is decided", up(3, 1, "3:1 3:2", 2, 2), nil, 2},
		{"of two, one is not enough", a, servers{fresh()}, 1},
		{"of two, both", a, servers{up(3, 1, "1:5 3:6 3:7", 3, 0)}, 3},
		{"of three, two", a, servers{fresh(), up(3, 1, "1:5 3:6 3:7", 3, 0)}, 3},
		{"of three, the best of the others counts", a, servers{up(3, 1, "1:5 3:6", 2, 0), up(3, 1, "1:5 3:6 3:7", 3, 0)}, 3},
		{"of three, on no other disk", a, servers{up(3, 1, "1:5 3:6", 0, 0), up(3, 1, "1:5 3:6 3:7 3:8", 0, 0)}, 1},
		{"of three, on another disk in part", a, servers{up(3, 1, "1:5 3:6", 0, 0), up(3, 1, "1:5 3:6 3:7 3:8", 2, 0)}, 2},
		{"of four, two are not enough", a, servers{up(3, 1, "1:5 3:6 3:7 3:8", 4, 0), fresh(), fresh()}, 1},
		{"of four, three", a, servers{up(3, 1, "1:5 3:6 3:7 3:8", 4, 0), up(3, 1, "1:5 3:6", 2, 0), fresh()}, 2},
		{"of five, three", a, servers{fresh(), up(3, 1, "1:5 3:6 3:7 3:8", 4, 0), up(3, 1, "1:5 3:6 3:7", 3, 0), fresh()}, 3},
		{"of five, two are not enough", a, servers{fresh(), up(3, 1, "1:5 3:6 3:7 3:8", 4, 0), up(3, 1, "1:5", 1, 0), fresh()}, 1},
		{"of six, three are not enough", a, servers{a, a, fresh(), fresh(), fresh()}, 1},
		{"of six, four", a, servers{a, a, fresh(), a, fresh()}, 4},
		{"of seven, four", a, servers{fresh(), a, fresh(), a, fresh(), a}, 4},
		{"of seven, three are not enough", a, servers{fresh(), a, fresh(), fresh(), fresh(), a}, 1},
		{"less on the disk of the leader", up(3, 1, "1:5 3:6 3:7 3:8", 2, 1), servers{a, a}, 2},
		{"nothing on the disk of the leader", up(3, 1, "1:5 3:6 3:7 3:8", 0, 0), servers{a, a}, 0},
		{"not up", a, servers{down(3, 1, "1:5 3:6 3:7", 3, 0), fresh()}, 3},
		{"not up, of an old term", a, servers{down(3, 0, "1:5 3:6", 2, 0), down(0, 0, "", 0, 0)}, 2},
		{"of a greater term", a, servers{up(8, 3, "1:5 3:6 3:7", 3, 0), up(9, 0, "", 0, 0)}, 3},
		{"slots of older terms alone", up(3, 1, "1:5 2:6 2:7", 3, 1), servers{up(3, 1, "1:5 2:6 2:7", 3, 1), up(3, 1, "1:5 2:6 2:7", 3, 1)}, 1},
		{"slots of older terms with one of its own", up(3, 1, "1:5 2:6 2:7 3:8", 4, 1), servers{up(3, 1, "1:5 2:6 2:7 3:8", 4, 1), fresh()}, 4},
		{"slots of older terms, its own one is on too few disks", up(3, 1, "1:5 2:6 2:7 3:8", 4, 0), servers{up(3, 1, "1:5 2:6 2:7 3:8", 3, 1), fresh()}, 0},
		{"a longer log", up(3, 1, "1:5 3:6", 2, 0), servers{up(3, 1, "1:5 3:6 3:7", 3, 0), fresh()}, 2},
		{"another last slot", a, servers{up(3, 1, "1:5 3:6 3:7 3:9", 4, 0), fresh()}, 3},
		{"another slot in the middle", a, servers{up(3, 1, "1:5 3:6 3:9 3:8", 4, 0), fresh()}, 2},
		{"another term in the middle", a, servers{up(3, 1, "1:5 3:6 3:9 3:8", 4, 0), up(3, 1, "1:5 2:6 3:7 3:8", 4, 0)}, 2},
		{"another first slot", a, servers{up(3, 1, "1:6 3:6 3:7 3:8", 4, 0), up(3, 1, "2:5 3:6 3:7 3:8", 4, 0)}, 1},
		{"more is decided elsewhere", a, servers{up(3, 1, "1:5 3:6 3:7", 3, 3), fresh()}, 3},
		{"no less than before", up(3, 1, "1:5 3:6 3:7 3:8", 4, 3), servers{up(3, 1, "1:5 3:6", 2, 0), fresh()}, 3},
	} {
		before, to := append(servers{s.a}, s.rest...), append(servers{s.a}, s.rest...)
		to[0].Done = s.done
		step{s.name, group(0, before...), decide(0), group(0, to...), api.OK}.check(t)
	}
	last := up(3, 1, "1:5 3:6 3:7 3:8", 4, 4)
	step{"the last one leads", group(2, fresh(), a, a), decide(2), group(2, fresh(), a, last), api.OK}.check(t)
	step{"another one leads", group(1, a, a), decide(0), api.Group{}, api.ErrServer}.check(t)
	step{"nobody leads", group(-1, a), decide(0), api.Group{}, api.ErrServer}.check(t)
	full := with(up(1, 1, "", 200, 0), many(200))
	step{"200 slots", group(0, full, full), decide(0), group(0, with(up(1, 1, "", 200, 200), many(200)), full), api.OK}.check(t)
}

// P15.1 (Stop, Start).
func TestStopAndStart(t *testing.T) {
	for _, s := range []step{
		{"nothing is lost", group(-1, up(1, 2, "1:5 1:6", 2, 1), fresh()), stop(0), group(-1, down(1, 2, "1:5 1:6", 2, 1), fresh()), api.OK},
		{"one slot is lost", group(-1, up(1, 2, "1:5 1:6", 1, 1), fresh()), stop(0), group(-1, down(1, 2, "1:5", 1, 1), fresh()), api.OK},
		{"all is lost", group(-1, up(4, 1, "1:5 1:6 4:7", 0, 0), fresh()), stop(0), group(-1, down(4, 1, "", 0, 0), fresh()), api.OK},
		{"an empty log", group(-1, fresh(), fresh()), stop(1), group(-1, fresh(), down(0, 0, "", 0, 0)), api.OK},
		{"the leader", group(1, fresh(), up(2, 2, "1:5 2:6", 1, 1)), stop(1), group(-1, fresh(), down(2, 2, "1:5", 1, 1)), api.OK},
		{"the leader 0", group(0, up(2, 2, "1:5 2:6", 1, 1), fresh()), stop(0), group(-1, down(2, 2, "1:5", 1, 1), fresh()), api.OK},
		{"another one than the leader", group(1, up(2, 2, "1:5", 0, 0), up(2, 2, "1:5 2:6", 1, 1)), stop(0), group(1, down(2, 2, "", 0, 0), up(2, 2, "1:5 2:6", 1, 1)), api.OK},
		{"it starts again", group(1, down(2, 2, "1:5", 1, 1), up(2, 2, "1:5 2:6", 1, 1)), start(0), group(1, up(2, 2, "1:5", 1, 1), up(2, 2, "1:5 2:6", 1, 1)), api.OK},
		{"all are stopped", group(-1, down(2, 2, "1:5", 1, 1), down(3, 2, "", 0, 0)), start(1), group(-1, down(2, 2, "1:5", 1, 1), up(3, 2, "", 0, 0)), api.OK},
		{"one that is up", group(-1, up(2, 2, "1:5", 0, 0), down(3, 2, "", 0, 0)), start(0), api.Group{}, api.ErrServer},
		{"the leader starts", group(0, up(2, 1, "1:5", 0, 0)), start(0), api.Group{}, api.ErrServer},
	} {
		s.check(t)
	}
}

// P15.1: the example of the chapter.
func TestExample(t *testing.T) {
	g := done(t, created(t, 3), elect(0, 2), propose(0, 7), sync(0), send(0, 1), sync(1))
	if got := quorum.Decided(g); len(got) > 0 {
		t.Errorf("%v was decided without Decide", got)
	}
	before := g
	g = done(t, g, decide(0))
	if got := quorum.Decided(g); len(got) != 1 || got[0] != 7 || !quorum.Kept(before, g) || quorum.Kept(g, before) {
		t.Errorf("%v was decided", got)
	}
	if want := group(0, up(1, 1, "1:7", 1, 1), up(1, 1, "1:7", 1, 0), fresh()); !equalGroups(g, want) {
		t.Errorf("%s, not %s", textOf(g), textOf(want))
	}
	g = done(t, g, stop(0), elect(2, 2))
	if want := group(-1, down(1, 1, "1:7", 1, 1), up(1, 1, "1:7", 1, 0), up(1, 3, "", 0, 0)); !equalGroups(g, want) {
		t.Errorf("%s, not %s", textOf(g), textOf(want))
	}
	g = done(t, g, elect(1, 4))
	if want := group(1, down(1, 1, "1:7", 1, 1), up(2, 2, "1:7", 1, 0), up(2, 2, "", 0, 0)); !equalGroups(g, want) {
		t.Errorf("%s, not %s", textOf(g), textOf(want))
	}
}

// P15.1: any events of any valid groups do what the model says.
func TestAnyEvents(t *testing.T) {
	g := rand.New(rand.NewSource(1))
	count := map[api.Errno]int{}
	kind := map[int]int{}
	changed := 0
	for range 200000 {
		of := someGroup(g)
		x := someEvent(g, of)
		want, e := after(of, x)
		got, f := quorum.Do(of, x)
		if e != f || !equalGroups(got, want) || e != api.OK && !equalGroups(got, of) {
			t.Fatalf("%s: %+v:\n%s, %v, not\n%s, %v", textOf(of), x, textOf(got), f, textOf(want), e)
		}
		if count[e]++; e == api.OK {
			kind[x.Kind]++
		}
		if !equalGroups(of, want) {
			changed++
		}
	}
	if changed < 80000 || count[api.ErrServer] < 20000 || count[api.ErrArg] < 500 || count[api.ErrBig] < 10 {
		t.Errorf("%d changed, %v", changed, count)
	}
	for _, k := range kinds {
		if kind[k] < 3000 {
			t.Errorf("%d of kind %d", kind[k], k)
		}
	}
}

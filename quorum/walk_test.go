package quorum_test

import (
	"fmt"
	"math/rand"
	"slices"
	"testing"

	"burgage/api"
	"burgage/quorum"
)

// promised looks whether a group that results from New is as P15.3 to P15.5 and P15.8 say, and returns what is wrong.
func promised(g api.Group) string {
	if !quorum.Valid(g) || !validGroup(g) {
		return "P15.8: it is not valid"
	}
	var most []api.Slot
	for _, s := range g.Servers {
		if len(settled(s)) > len(most) {
			most = settled(s)
		}
	}
	for _, s := range g.Servers {
		if !begins(most, settled(s)) {
			return "P15.3: two servers have decided otherwise"
		}
		for _, o := range g.Servers {
			if !matching(s.Log, o.Log) {
				return "P15.4: two logs do not match"
			}
		}
	}
	if !slices.Equal(recsOf(most), quorum.Decided(g)) {
		return "P15.1: what is decided is another list"
	}
	if g.Lead >= 0 && !begins(g.Servers[g.Lead].Log, most) {
		return "P15.5: the leader lacks something"
	}
	return ""
}

// matching is P15.4 for two logs.
func matching(l, m []api.Slot) bool {
	for i := min(len(l), len(m)) - 1; i >= 0; i-- {
		if l[i].Term == m[i].Term {
			return slices.Equal(l[:i+1], m[:i+1])
		}
	}
	return true
}

// moved does an event of a group that results from New, looks whether all is as promised, and returns what is wrong.
func moved(g api.Group, x api.Event) (api.Group, api.Errno, string) {
	next, e := quorum.Do(g, x)
	want, f := after(g, x)
	switch {
	case e != api.OK && !equalGroups(g, next):
		return next, e, "P15.8: something changes with an error"
	case e != f || !equalGroups(next, want):
		return next, e, fmt.Sprintf("P15.1: %s, %v, not %s, %v", textOf(next), e, textOf(want), f)
	case !quorum.Kept(g, next):
		return next, e, "P15.2: what was decided is lost"
	}
	return next, e, promised(next)
}

// tally counts what happens on ways from New.
type tally map[string]int

// see counts what an event has done.
func (c tally) see(g, next api.Group, x api.Event, e api.Errno) {
	if e != api.OK {
		c["error"]++
		return
	}
	c[fmt.Sprint("kind ", x.Kind)]++
	was, is := g.Servers[x.A], next.Servers[x.A]
	switch x.Kind {
	case api.Elect:
		if next.Lead == x.A && g.Lead != x.A {
			c["another leader"]++
		}
		if next.Lead == x.A && len(is.Log) > len(quorum.Decided(g)) && len(is.Log) > 0 && is.Log[len(is.Log)-1].Term < is.Term {
			c["a leader with slots of older terms that are not decided"]++
		}
		if next.Lead == -1 && g.Lead >= 0 {
			c["no leader any more"]++
		}
		if next.Lead >= 0 && next.Lead != x.A {
			c["another one leads on"]++
		}
	case api.Copy:
		if next.Lead == -1 {
			c["a leader learns that its term is over"]++
			return
		}
		b, to := g.Servers[x.B], next.Servers[x.B]
		if to.Sure < b.Sure {
			c["slots on a disk are replaced"]++
		}
		if len(to.Log) < len(b.Log) {
			c["a log becomes shorter"]++
		}
		if to.Done > b.Done {
			c["a server learns what is decided"]++
		}
	case api.Decide:
		if is.Done > was.Done {
			c["decided"] += is.Done - was.Done
		}
		if is.Done > was.Done && is.Log[was.Done].Term < is.Term {
			c["decided with older slots"]++
		}
		if is.Done == was.Done && was.Sure > was.Done && was.Log[was.Sure-1].Term < was.Term {
			c["older slots that are not decided yet"]++
		}
	case api.Stop:
		if len(is.Log) < len(was.Log) {
			c["slots are lost"]++
		}
		if g.Lead == x.A {
			c["the leader stops"]++
		}
	}
}

// likely returns an event that, often enough, leads on.
func likely(g *rand.Rand, of api.Group, rec int) api.Event {
	n := len(of.Servers)
	x := api.Event{A: g.Intn(n), B: g.Intn(n), N: rec, Of: g.Intn(1 << n)}
	switch k := g.Intn(40); {
	case k < 2:
		x.Kind = api.Elect
	case k < 3 || of.Lead < 0 && k < 20:
		x.Kind, x.Of = api.Elect, -1
	case k < 10:
		x.Kind, x.A = api.Propose, of.Lead
	case k < 22:
		x.Kind, x.A = api.Copy, of.Lead
	case k < 30:
		x.Kind = api.Sync
	case k < 35:
		x.Kind, x.A = api.Decide, of.Lead
	case k < 36:
		x.Kind = api.Stop
	case k < 38:
		x.Kind = api.Start
	default:
		x = someEvent(g, of)
	}
	return x
}

// P15.2 to P15.5, P15.8 (and P15.1): groups that are reached from New by long lists of events.
func TestWays(t *testing.T) {
	g := rand.New(rand.NewSource(6))
	c := tally{}
	for way := range 1400 {
		of := created(t, 1+way%7)
		seen := []api.Group{of}
		for i := range 300 {
			x := likely(g, of, i)
			next, e, wrong := moved(of, x)
			if wrong != "" {
				t.Fatalf("%s: %+v: %s\n%s", textOf(of), x, textOf(next), wrong)
			}
			c.see(of, next, x, e)
			if of = next; i%20 == 0 {
				seen = append(seen, of)
			}
		}
		for i, a := range seen {
			for _, b := range seen[i:] {
				if !quorum.Kept(a, b) {
					t.Fatalf("P15.2: %s, and much later %s", textOf(a), textOf(b))
				}
			}
		}
		if len(quorum.Decided(of)) > 20 {
			c["a long log"]++
		}
	}
	for _, what := range []struct {
		name  string
		least int
	}{
		{"error", 5000}, {"kind 1", 5000}, {"kind 2", 5000}, {"kind 3", 5000}, {"kind 4", 5000}, {"kind 5", 5000}, {"kind 6", 1000}, {"kind 7", 1000},
		{"another leader", 1000}, {"a leader with slots of older terms that are not decided", 500}, {"no leader any more", 500}, {"another one leads on", 500},
		{"a leader learns that its term is over", 200}, {"slots on a disk are replaced", 100}, {"a log becomes shorter", 100}, {"a server learns what is decided", 1000},
		{"decided", 3000}, {"decided with older slots", 200}, {"older slots that are not decided yet", 200}, {"slots are lost", 500}, {"the leader stops", 200}, {"a long log", 50},
	} {
		if c[what.name] < what.least {
			t.Errorf("%s: %d", what.name, c[what.name])
		}
	}
}

// all returns all events of a group that can matter, with two records.
func all(g api.Group) []api.Event {
	var l []api.Event
	n := len(g.Servers)
	for a := range n {
		for of := range 1 << n {
			if of>>a&1 == 0 {
				l = append(l, elect(a, of))
			}
		}
		l = append(l, sync(a), stop(a), start(a))
	}
	if a := g.Lead; a >= 0 {
		for b := range n {
			l = append(l, send(a, b))
		}
		l = append(l, propose(a, 0), propose(a, 1), decide(a))
	}
	return l
}

// key has all of a group whose numbers are small.
func key(g api.Group) string {
	b := []byte{byte(g.Lead)}
	for _, s := range g.Servers {
		up := byte(0)
		if s.Up {
			up = 1
		}
		b = append(b, up, byte(s.Term), byte(s.Vote), byte(s.Sure), byte(s.Done), byte(len(s.Log)))
		for _, x := range s.Log {
			b = append(b, byte(x.Term), byte(x.Rec))
		}
		b = append(b, 255)
	}
	return string(b)
}

// P15.2 to P15.5, P15.8 (and P15.1): all groups that some servers can reach, with few terms and few slots.
func TestAllGroups(t *testing.T) {
	for _, s := range []struct{ servers, terms, slots, events, least int }{
		{1, 3, 3, 99, 1000},
		{2, 3, 2, 99, 10000},
		{3, 2, 1, 99, 10000},
		{3, 3, 2, 6, 10000},
		{5, 2, 1, 3, 1000},
	} {
		from := []api.Group{created(t, s.servers)}
		seen := map[string]bool{key(from[0]): true}
		for i := 0; i < s.events && len(from) > 0; i++ {
			var next []api.Group
			for _, of := range from {
				for _, x := range all(of) {
					to, _, wrong := moved(of, x)
					if wrong != "" {
						t.Fatalf("%s: %+v: %s\n%s", textOf(of), x, textOf(to), wrong)
					}
					few := !slices.ContainsFunc(to.Servers, func(o api.Server) bool { return o.Term > s.terms || len(o.Log) > s.slots })
					if k := key(to); few && !seen[k] {
						seen[k] = true
						next = append(next, to)
					}
				}
			}
			from = next
		}
		if len(seen) < s.least {
			t.Errorf("%d groups of %d servers", len(seen), s.servers)
		}
	}
}

// P15.2, P15.5: a slot of an older term on most of the disks is not decided, since a later leader may lack it; with one of the leader's own it is.
func TestOlderTerms(t *testing.T) {
	g := done(t, created(t, 5), elect(0, 6), propose(0, 1), sync(0), send(0, 1), sync(1), decide(0), stop(0))
	g = done(t, g, elect(4, 12), elect(4, 12), propose(4, 2), sync(4), stop(4), start(0), elect(0, 6), elect(0, 6), send(0, 2), sync(2))
	// The slot 1:1 is on the disks of 0, 1 and 2, and 0 leads in the term 3.
	if want := group(0, up(3, 1, "1:1", 1, 0), up(3, 1, "1:1", 1, 0), up(3, 1, "1:1", 1, 0), up(2, 5, "", 0, 0), down(2, 5, "2:2", 1, 0)); !equalGroups(g, want) {
		t.Fatalf("%s, not %s", textOf(g), textOf(want))
	}
	g = done(t, g, decide(0))
	if got := quorum.Decided(g); len(got) > 0 {
		t.Errorf("%v was decided", got)
	}
	lost := done(t, g, stop(0), start(4), elect(4, 14), elect(4, 14), send(4, 1), send(4, 2), send(4, 3), sync(1), sync(2), propose(4, 3), sync(4), send(4, 1), send(4, 2), sync(1), sync(2), decide(4))
	if got := quorum.Decided(lost); !slices.Equal(got, []int{2, 3}) || lost.Lead != 4 {
		t.Errorf("%v was decided: %s", got, textOf(lost))
	}
	kept := done(t, g, propose(0, 5), sync(0), send(0, 1), sync(1), send(0, 2), sync(2), decide(0), stop(0), start(4), elect(4, 14), elect(4, 14))
	if got := quorum.Decided(kept); !slices.Equal(got, []int{1, 5}) || kept.Lead == 4 {
		t.Errorf("%v was decided: %s", got, textOf(kept))
	}
}

// better reports whether the log l is better than m, which means that m is not at least as good.
func better(l, m []api.Slot) bool { return !good(m, l) }

// P15.7: a majority that is up gets on with each server of it that no other one is ahead of.
func TestProgress(t *testing.T) {
	g := rand.New(rand.NewSource(7))
	went, full, larger := 0, 0, 0
	for way := range 4000 {
		of := created(t, 1+way%7)
		n := len(of.Servers)
		for i := range 40 + 20*(way%10) {
			of, _ = quorum.Do(of, likely(g, of, i))
		}
		for set := range 1 << n {
			a := g.Intn(n)
			if !quorum.Most(n, set) || set>>a&1 == 0 || !leads(of, set, a) {
				continue
			}
			if len(of.Servers[a].Log) == api.MaxPackets {
				full++
				continue
			}
			before := of
			next := done(t, of, elect(a, set))
			if next.Lead != a {
				t.Fatalf("%s: %d is not elected by %b", textOf(of), a, set)
			}
			next = done(t, next, propose(a, 1000+way))
			for _, b := range g.Perm(n) {
				if b != a && set>>b&1 == 1 {
					next = done(t, next, send(a, b), sync(b))
				}
			}
			next = done(t, next, sync(a), decide(a))
			want := append(recsOf(of.Servers[a].Log), 1000+way)
			if got := quorum.Decided(next); !slices.Equal(got, want) || !quorum.Kept(before, next) || promised(next) != "" {
				t.Fatalf("%s: %v, not %v, is decided by %d and %b", textOf(of), got, want, a, set)
			}
			if went++; len(want) > len(quorum.Decided(of))+1 {
				larger++
			}
		}
	}
	if went < 2000 || larger < 500 {
		t.Errorf("%d went on, %d with older slots, %d had no room", went, larger, full)
	}
}

// leads reports whether all servers of a set are up, and a has no lesser term and no worse log than any of them.
func leads(g api.Group, set, a int) bool {
	for i, s := range g.Servers {
		if set>>i&1 == 1 && (!s.Up || s.Term > g.Servers[a].Term || better(s.Log, g.Servers[a].Log)) {
			return false
		}
	}
	return true
}

// P15.2 to P15.5, P15.7, P15.8: a log grows to 200 slots, and not beyond.
func TestLongLog(t *testing.T) {
	g := done(t, created(t, 3), elect(2, 1))
	for i := range api.MaxPackets {
		g = done(t, g, propose(2, i), send(2, 0), sync(0), sync(2), decide(2))
		if got := quorum.Decided(g); len(got) != i+1 || got[i] != i || promised(g) != "" {
			t.Fatalf("%d: %v, %s", i, got, promised(g))
		}
	}
	if next, e := quorum.Do(g, propose(2, 7)); e != api.ErrBig || !equalGroups(g, next) {
		t.Errorf("%v", e)
	}
	g = done(t, g, elect(0, 2), send(0, 1), send(0, 2), sync(1), stop(2), decide(0))
	if got := quorum.Decided(g); len(got) != api.MaxPackets || promised(g) != "" {
		t.Errorf("%v, %s", got, promised(g))
	}
}

package quorum_test

import (
	"fmt"
	"math"
	"math/rand"
	"slices"
	"strconv"
	"strings"
	"testing"

	"burgage/api"
	"burgage/quorum"
)

// odd are numbers far from all that there are.
var odd = []int{math.MinInt, math.MinInt + 1, math.MinInt32, -64, -2, -1, 7, 8, 63, 64, 65, math.MaxInt32, 1 << 32, 1 << 62, math.MaxInt - 1, math.MaxInt}

// kinds are all kinds of events.
var kinds = []int{api.Elect, api.Propose, api.Copy, api.Sync, api.Decide, api.Stop, api.Start}

func pick[T any](g *rand.Rand, l []T) T { return l[g.Intn(len(l))] }

// slots reads a log of slots such as 2:7, the record 7 of the term 2.
func slots(text string) []api.Slot {
	var l []api.Slot
	for _, word := range strings.Fields(text) {
		term, rec, _ := strings.Cut(word, ":")
		t, e := strconv.Atoi(term)
		r, f := strconv.Atoi(rec)
		if e != nil || f != nil {
			panic(text)
		}
		l = append(l, api.Slot{Term: t, Rec: r})
	}
	return l
}

// up returns a server that is up.
func up(term, vote int, log string, sure, done int) api.Server {
	return api.Server{Term: term, Vote: vote, Log: slots(log), Sure: sure, Done: done, Up: true}
}

// down returns a server that is not up.
func down(term, vote int, log string, sure, done int) api.Server {
	s := up(term, vote, log, sure, done)
	s.Up = false
	return s
}

// group returns a group of servers of which lead leads.
func group(lead int, l ...api.Server) api.Group { return api.Group{Servers: l, Lead: lead} }

// many returns a log of n slots of the term 1, whose records are 1 to n.
func many(n int) []api.Slot {
	var l []api.Slot
	for i := range n {
		l = append(l, api.Slot{Term: 1, Rec: i + 1})
	}
	return l
}

// with returns the server s with another log.
func with(s api.Server, l []api.Slot) api.Server {
	s.Log = l
	return s
}

// The events of each kind.

func elect(a, of int) api.Event  { return api.Event{Kind: api.Elect, A: a, Of: of} }
func propose(a, n int) api.Event { return api.Event{Kind: api.Propose, A: a, N: n} }
func send(a, b int) api.Event    { return api.Event{Kind: api.Copy, A: a, B: b} }
func sync(a int) api.Event       { return api.Event{Kind: api.Sync, A: a} }
func decide(a int) api.Event     { return api.Event{Kind: api.Decide, A: a} }
func stop(a int) api.Event       { return api.Event{Kind: api.Stop, A: a} }
func start(a int) api.Event      { return api.Event{Kind: api.Start, A: a} }

// textOf writes all of a group as a text.
func textOf(g api.Group) string {
	var b strings.Builder
	fmt.Fprintf(&b, "lead %d", g.Lead)
	for i, s := range g.Servers {
		fmt.Fprintf(&b, "; %d: term %d, vote %d, log", i, s.Term, s.Vote)
		for _, x := range s.Log {
			fmt.Fprintf(&b, " %d:%d", x.Term, x.Rec)
		}
		fmt.Fprintf(&b, ", sure %d, done %d", s.Sure, s.Done)
		if !s.Up {
			b.WriteString(", down")
		}
	}
	return b.String()
}

func equalGroups(a, b api.Group) bool {
	return a.Lead == b.Lead && slices.EqualFunc(a.Servers, b.Servers, func(x, y api.Server) bool {
		return x.Term == y.Term && x.Vote == y.Vote && slices.Equal(x.Log, y.Log) && x.Sure == y.Sure && x.Done == y.Done && x.Up == y.Up
	})
}

// copyOf returns a group that shares no memory with g.
func copyOf(g api.Group) api.Group {
	c := api.Group{Lead: g.Lead}
	for _, s := range g.Servers {
		s.Log = slices.Clone(s.Log)
		c.Servers = append(c.Servers, s)
	}
	return c
}

// done does events that have no error.
func done(t *testing.T, g api.Group, l ...api.Event) api.Group {
	t.Helper()
	for _, x := range l {
		next, e := quorum.Do(g, x)
		if e != api.OK {
			t.Fatalf("%s: %+v: %v", textOf(g), x, e)
		}
		g = next
	}
	return g
}

// created returns a group of n servers.
func created(t *testing.T, n int) api.Group {
	t.Helper()
	g, e := quorum.New(n)
	if e != api.OK {
		t.Fatalf("New(%d): %v", n, e)
	}
	return g
}

// begins reports whether the log l begins with m.
func begins(l, m []api.Slot) bool { return len(l) >= len(m) && slices.Equal(l[:len(m)], m) }

// settled returns the decided slots of a server.
func settled(s api.Server) []api.Slot { return s.Log[:s.Done] }

// someLog returns a log for a server in a term, which often begins like the log base.
func someLog(g *rand.Rand, base []api.Slot, term int) []api.Slot {
	l := slices.Clone(base[:g.Intn(len(base)+1)])
	for i, s := range l {
		if s.Term > term {
			l = l[:i]
			break
		}
	}
	if len(l) > 0 && g.Intn(6) == 0 {
		l[g.Intn(len(l))].Rec++
	}
	least := 1
	if len(l) > 0 {
		least = l[len(l)-1].Term
	}
	for term >= least && len(l) < api.MaxPackets && g.Intn(3) > 0 {
		least += g.Intn(term - least + 1)
		l = append(l, api.Slot{Term: least, Rec: g.Intn(3)})
	}
	return l
}

// someGroup returns a valid group, which need not result from events.
func someGroup(g *rand.Rand) api.Group {
	n := 1 + g.Intn(api.MaxServers)
	longest := 8
	if g.Intn(20) == 0 {
		longest = api.MaxPackets
	}
	base := someLog(g, nil, 4)
	for term := 1; term <= 4; term++ {
		for range g.Intn(longest/3 + 1) {
			if len(base) < longest && (len(base) == 0 || base[len(base)-1].Term <= term) {
				base = append(base, api.Slot{Term: term, Rec: g.Intn(3)})
			}
		}
	}
	for longest == api.MaxPackets && len(base) < longest && len(base) > 0 {
		base = append(base, base[len(base)-1])
	}
	out := api.Group{Lead: -1}
	for i := range n {
		s := api.Server{Term: g.Intn(6), Vote: g.Intn(n + 1), Up: g.Intn(5) > 0}
		if g.Intn(2) == 0 {
			s.Term = 4
		}
		if s.Log = base; s.Term < 4 || g.Intn(2) == 0 {
			s.Log = someLog(g, base, s.Term)
		}
		s.Sure = len(s.Log)
		if g.Intn(2) == 0 {
			s.Sure = g.Intn(len(s.Log) + 1)
		}
		s.Done = g.Intn(s.Sure + 1)
		if g.Intn(2) == 0 {
			s.Done = min(s.Sure, 2)
		}
		if s.Up && g.Intn(3) > 0 {
			out.Lead = i
		}
		out.Servers = append(out.Servers, s)
	}
	return out
}

// someEvent returns an event, most often one that can happen.
func someEvent(g *rand.Rand, of api.Group) api.Event {
	n := len(of.Servers)
	x := api.Event{Kind: pick(g, kinds), A: g.Intn(n), B: g.Intn(n), N: g.Intn(3), Of: g.Intn(1 << n)}
	leads := x.Kind == api.Propose || x.Kind == api.Copy || x.Kind == api.Decide
	if leads && of.Lead >= 0 && g.Intn(10) > 0 {
		x.A = of.Lead
	}
	if g.Intn(10) == 0 {
		x.Of = pick(g, odd)
	}
	if g.Intn(40) == 0 {
		*pick(g, []*int{&x.Kind, &x.A, &x.B, &x.N}) = pick(g, odd)
	}
	return x
}

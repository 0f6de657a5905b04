package quorum_test

import (
	"slices"

	"burgage/api"
)

// The model says once more what the chapter says, sentence by sentence: it tries all numbers of slots, and counts servers one by one.

// validGroup is the section Types.
func validGroup(g api.Group) bool {
	n := len(g.Servers)
	if n == 0 || n > 7 {
		return false
	}
	led := g.Lead == -1
	for i, s := range g.Servers {
		led = led || g.Lead == i && s.Up
		wrong := []bool{s.Term < 0, s.Vote < 0, s.Vote > n, len(s.Log) > 200, s.Done < 0, s.Sure < s.Done, len(s.Log) < s.Sure}
		for i, x := range s.Log {
			wrong = append(wrong, x.Term < 1, x.Term > s.Term, x.Rec < 0, i > 0 && x.Term < s.Log[i-1].Term)
		}
		if slices.Contains(wrong, true) {
			return false
		}
	}
	return led
}

// majority reports whether a list of different servers is a majority of n servers.
func majority(l []int, n int) bool { return len(l) > n-len(l) }

// good reports whether the log l is at least as good as m.
func good(l, m []api.Slot) bool {
	last := func(l []api.Slot) int {
		term := 0
		for _, s := range l {
			term = s.Term
		}
		return term
	}
	if last(l) == last(m) {
		return !(len(l) < len(m))
	}
	return last(l) > last(m)
}

// after is the section Events, for a valid group.
func after(g api.Group, x api.Event) (api.Group, api.Errno) {
	c := copyOf(g)
	if x.A < 0 || x.A > len(g.Servers)-1 {
		return c, api.ErrServer
	}
	a := &c.Servers[x.A]
	if x.Kind != api.Start && !a.Up {
		return c, api.ErrServer
	}
	switch x.Kind {
	case api.Elect:
		elected(&c, x)
	case api.Propose:
		switch {
		case c.Lead != x.A:
			return c, api.ErrServer
		case x.N < 0:
			return c, api.ErrArg
		case len(a.Log) == 200:
			return c, api.ErrBig
		}
		a.Log = slices.Concat(a.Log, []api.Slot{{Term: a.Term, Rec: x.N}})
	case api.Copy:
		if c.Lead != x.A || x.B == x.A || x.B < 0 || x.B >= len(c.Servers) || !c.Servers[x.B].Up {
			return c, api.ErrServer
		}
		copied(&c, a, &c.Servers[x.B])
	case api.Sync:
		a.Sure = len(a.Log)
	case api.Decide:
		if c.Lead != x.A {
			return c, api.ErrServer
		}
		decided(&c, a)
	case api.Stop:
		a.Up, a.Log = false, slices.Clone(a.Log[:a.Sure])
		if c.Lead == x.A {
			c.Lead = -1
		}
	case api.Start:
		if a.Up {
			return c, api.ErrServer
		}
		a.Up = true
	default:
		return c, api.ErrArg
	}
	return c, api.OK
}

// elected is the row Elect.
func elected(g *api.Group, x api.Event) {
	a := &g.Servers[x.A]
	a.Term, a.Vote = a.Term+1, x.A+1
	votes, less := []int{x.A}, []int{}
	for i := range g.Servers {
		b := &g.Servers[i]
		if of := uint64(x.Of) & (1 << i); i == x.A || of == 0 || !b.Up {
			continue
		}
		if b.Term < a.Term {
			b.Term, b.Vote = a.Term, 0
			less = append(less, i)
		}
		if b.Term == a.Term && (b.Vote == 0 || b.Vote == x.A+1) && good(a.Log, b.Log) {
			b.Vote = x.A + 1
			votes = append(votes, i)
		}
	}
	if majority(votes, len(g.Servers)) {
		g.Lead = x.A
	} else if g.Lead == x.A || slices.Contains(less, g.Lead) {
		g.Lead = -1
	}
}

// copied is the row Copy, from the leader a to b.
func copied(g *api.Group, a, b *api.Server) {
	if b.Term > a.Term {
		a.Term, a.Vote, g.Lead = b.Term, 0, -1
		return
	}
	if b.Term < a.Term {
		b.Term, b.Vote = a.Term, 0
	}
	if !begins(b.Log, a.Log) {
		equal := 0
		for n := range 201 {
			if n <= len(a.Log) && begins(b.Log, a.Log[:n]) {
				equal = n
			}
		}
		b.Log = slices.Clone(a.Log)
		if b.Sure > equal {
			b.Sure = equal
		}
	}
	least := a.Done
	if b.Sure < least {
		least = b.Sure
	}
	if least > b.Done {
		b.Done = least
	}
}

// decided is the row Decide, for the leader a.
func decided(g *api.Group, a *api.Server) {
	before := a.Done
	for n := before + 1; n <= a.Sure; n++ {
		var have []int
		for i, s := range g.Servers {
			if s.Sure >= n && begins(s.Log, a.Log[:n]) {
				have = append(have, i)
			}
		}
		if a.Log[n-1].Term == a.Term && majority(have, len(g.Servers)) {
			a.Done = n
		}
	}
}

// records is O3.
func records(g api.Group) []int {
	most, found := 0, []int{}
	for _, s := range g.Servers {
		most = max(most, s.Done)
	}
	for _, s := range g.Servers {
		if s.Done == most {
			for i := range most {
				found = append(found, s.Log[i].Rec)
			}
			break
		}
	}
	return found
}

package quorum

import (
	"slices"

	"burgage/api"
)

// events returns what does the events of each kind. The server A of an event is there.
func events() map[int]func(*api.Group, api.Event) {
	return map[int]func(*api.Group, api.Event){
		api.Elect:   elect,
		api.Propose: propose,
		api.Copy:    send,
		api.Sync:    write,
		api.Decide:  decide,
		api.Stop:    stop,
		api.Start:   start,
	}
}

// do does an event, or ends with the panic of an error before it has changed anything.
func do(g *api.Group, x api.Event) {
	refuse(!isServer(*g, x.A) || x.Kind != api.Start && !g.Servers[x.A].Up, api.ErrServer)
	event, is := events()[x.Kind]
	refuse(!is, api.ErrArg)
	event(g, x)
}

// elect makes A the leader, if a majority votes for it.
func elect(g *api.Group, x api.Event) {
	a := &g.Servers[x.A]
	a.Term++
	a.Vote = x.A + 1
	votes, deposed := 1<<x.A, g.Lead == x.A
	for i := range g.Servers {
		b := &g.Servers[i]
		if i == x.A || x.Of>>i&1 == 0 || !b.Up {
			continue
		}
		if follow(b, a.Term) && g.Lead == i {
			deposed = true
		}
		if b.Term == a.Term && (b.Vote == 0 || b.Vote == a.Vote) && isAsGood(a.Log, b.Log) {
			b.Vote = a.Vote
			votes |= 1 << i
		}
	}
	switch {
	case Most(len(g.Servers), votes):
		g.Lead = x.A
	case deposed:
		g.Lead = nobody
	}
}

// follow takes a server to a greater term, in which it has no vote yet, and reports whether it was in a lesser one.
func follow(s *api.Server, term int) bool {
	if s.Term >= term {
		return false
	}
	s.Term, s.Vote = term, 0
	return true
}

// isAsGood reports whether the log a is at least as good as b.
func isAsGood(a, b []api.Slot) bool {
	m, n := lastTerm(a), lastTerm(b)
	return m > n || m == n && len(a) >= len(b)
}

// lastTerm returns the term of the last slot.
func lastTerm(l []api.Slot) int {
	if len(l) == 0 {
		return 0
	}
	return l[len(l)-1].Term
}

// propose adds a record to the log of the leader.
func propose(g *api.Group, x api.Event) {
	a := &g.Servers[x.A]
	refuse(g.Lead != x.A, api.ErrServer)
	refuse(x.N < 0, api.ErrArg)
	refuse(len(a.Log) >= api.MaxPackets, api.ErrBig)
	a.Log = append(a.Log, api.Slot{Term: a.Term, Rec: x.N})
}

// send brings the log of the leader to B, unless the leader learns there that its term is over.
func send(g *api.Group, x api.Event) {
	refuse(g.Lead != x.A || x.B == x.A || !isUp(*g, x.B), api.ErrServer)
	a, b := &g.Servers[x.A], &g.Servers[x.B]
	if follow(a, b.Term) {
		g.Lead = nobody
		return
	}
	follow(b, a.Term)
	if n := alike(a.Log, b.Log); n < len(a.Log) {
		b.Log = slices.Clone(a.Log)
		// What is on the disk of B behind the slots that were equal is of another log.
		b.Sure = min(b.Sure, n)
	}
	b.Done = max(b.Done, min(a.Done, b.Sure))
}

// write brings the log of A to its disk.
func write(g *api.Group, x api.Event) {
	a := &g.Servers[x.A]
	a.Sure = len(a.Log)
}

// decide finds out how much of the log of the leader is on the disks of a majority. Slots of older terms are decided only together with one of its own, since a later leader may lack them otherwise.
func decide(g *api.Group, x api.Event) {
	refuse(g.Lead != x.A, api.ErrServer)
	a := &g.Servers[x.A]
	sure := make([]int, len(g.Servers))
	for i, b := range g.Servers {
		sure[i] = min(b.Sure, alike(a.Log, b.Log))
	}
	for n := sure[x.A]; n > a.Done; n-- {
		if a.Log[n-1].Term == a.Term && Most(len(sure), having(sure, n)) {
			a.Done = n
			return
		}
	}
}

// having returns the set of the servers with a number that is at least n.
func having(sure []int, n int) int {
	of := 0
	for i, m := range sure {
		if m >= n {
			of |= 1 << i
		}
	}
	return of
}

// stop stops A, which loses what is not on its disk.
func stop(g *api.Group, x api.Event) {
	a := &g.Servers[x.A]
	a.Up = false
	a.Log = first(a.Log, a.Sure)
	if g.Lead == x.A {
		g.Lead = nobody
	}
}

// start starts A again.
func start(g *api.Group, x api.Event) {
	a := &g.Servers[x.A]
	refuse(a.Up, api.ErrServer)
	a.Up = true
}

// refuse ends what errorOf runs with the error e, if bad is true.
func refuse(bad bool, e api.Errno) {
	if bad {
		panic(e)
	}
}

// errorOf runs f, and returns the error with which it was ended, or OK.
func errorOf(f func()) (e api.Errno) {
	defer func() {
		switch p := recover().(type) {
		case nil:
		case api.Errno:
			e = p
		default:
			// No valid group leads here.
			e = api.ErrServer
		}
	}()
	f()
	return api.OK
}

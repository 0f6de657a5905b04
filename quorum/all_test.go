package quorum_test

import (
	"math"
	"math/rand"
	"reflect"
	"slices"
	gosync "sync"
	"testing"

	"burgage/api"
	"burgage/quorum"
)

// question has arguments for all functions.
type question struct {
	n, of int
	g, h  api.Group
	x     api.Event
}

// answers has the results of all functions for some arguments.
type answers struct {
	New, Do           api.Group
	NewE, DoE         api.Errno
	Decided           []int
	Valid, Kept, Most bool
}

// ask asks all functions.
func (q question) ask() answers {
	a := answers{Valid: quorum.Valid(q.g), Decided: quorum.Decided(q.g), Kept: quorum.Kept(q.g, q.h), Most: quorum.Most(q.n, q.of)}
	a.New, a.NewE = quorum.New(q.n)
	a.Do, a.DoE = quorum.Do(q.g, q.x)
	return a
}

func equalAnswers(a, b answers) bool {
	return equalGroups(a.New, b.New) && equalGroups(a.Do, b.Do) && a.NewE == b.NewE && a.DoE == b.DoE &&
		slices.Equal(a.Decided, b.Decided) && a.Valid == b.Valid && a.Kept == b.Kept && a.Most == b.Most
}

// someQuestion returns arguments of all sorts.
func someQuestion(g *rand.Rand) question {
	q := question{n: g.Intn(10) - 1, of: g.Intn(256), g: someGroup(g), h: someGroup(g)}
	if q.x = someEvent(g, q.g); g.Intn(3) == 0 {
		q.h, _ = after(q.g, q.x)
	}
	return q
}

// Strays show where nothing should be.
var (
	straySlot   = api.Slot{Term: 99, Rec: 99}
	strayServer = api.Server{Term: 99, Vote: 99, Sure: 99, Done: 99, Up: true}
)

// room is a list of servers with their logs, with strays before and behind each of them.
type room struct {
	servers []api.Server
	logs    [][]api.Slot
}

// roomOf returns a group that is equal to g, and whose lists have room about them.
func roomOf(g api.Group) (api.Group, room) {
	r := room{servers: slices.Repeat([]api.Server{strayServer}, len(g.Servers)+10)}
	for i, s := range g.Servers {
		n := len(s.Log)
		log := slices.Concat(slices.Repeat([]api.Slot{straySlot}, 5), s.Log, slices.Repeat([]api.Slot{straySlot}, 5))
		s.Log, r.logs = log[5:5+n], append(r.logs, log)
		r.servers[5+i] = s
	}
	g.Servers = r.servers[5 : 5+len(g.Servers)]
	return g, r
}

// has reports whether a group with its room is still what it was made of.
func (r room) has(g api.Group) bool {
	_, want := roomOf(g)
	return equalGroups(api.Group{Servers: r.servers}, api.Group{Servers: want.servers}) &&
		slices.EqualFunc(r.logs, want.logs, func(a, b []api.Slot) bool { return slices.Equal(a, b) })
}

// memory returns where the memory of a list begins and ends, after writing strays to it.
func memory[T any](l []T, stray T) [2]uintptr {
	l = l[:cap(l)]
	for i := range l {
		l[i] = stray
	}
	from := reflect.ValueOf(l).Pointer()
	return [2]uintptr{from, from + uintptr(len(l))*reflect.TypeOf(stray).Size()}
}

// spoil writes strays to all memory of the results, and reports whether no two lists share some.
func (a answers) spoil() bool {
	l := [][2]uintptr{memory(a.Decided, 99)}
	for _, g := range []api.Group{a.New, a.Do} {
		for _, s := range g.Servers {
			l = append(l, memory(s.Log, straySlot))
		}
		l = append(l, memory(g.Servers, strayServer))
	}
	slices.SortFunc(l, func(a, b [2]uintptr) int { return int(a[0]) - int(b[0]) })
	l = slices.DeleteFunc(l, func(a [2]uintptr) bool { return a[0] == a[1] })
	for i := range l {
		if i > 0 && l[i-1][1] > l[i][0] {
			return false
		}
	}
	return true
}

// O6 (P15.1), and P2 of the document: no argument is modified, nor the memory about it, the same arguments have the same results, and these are new memory.
func TestArguments(t *testing.T) {
	g := rand.New(rand.NewSource(8))
	done, refused := 0, 0
	for range 20000 {
		q := someQuestion(g)
		plain, other := copyOf(q.g), copyOf(q.h)
		want := q.ask()
		var first, second room
		q.g, first = roomOf(q.g)
		q.h, second = roomOf(q.h)
		for range 2 {
			got := q.ask()
			if !equalAnswers(got, want) {
				t.Fatalf("%+v: %+v, not %+v", q, got, want)
			}
			if !got.spoil() || !first.has(plain) || !second.has(other) {
				t.Fatalf("%+v: an argument has changed, or results share memory", q)
			}
		}
		if want.DoE == api.OK {
			done++
		} else {
			refused++
		}
	}
	if done < 8000 || refused < 4000 {
		t.Errorf("%d were done, and %d were refused", done, refused)
	}
}

// P1 and P2 of the document: nil and empty lists are the same.
func TestNilAndEmpty(t *testing.T) {
	g := rand.New(rand.NewSource(9))
	for range 5000 {
		q := someQuestion(g)
		with, without := q, q
		with.g, without.g = copyOf(q.g), copyOf(q.g)
		for i, s := range q.g.Servers {
			if len(s.Log) == 0 || g.Intn(3) == 0 {
				with.g.Servers[i].Log, with.g.Servers[i].Sure, with.g.Servers[i].Done = []api.Slot{}, 0, 0
				without.g.Servers[i].Log, without.g.Servers[i].Sure, without.g.Servers[i].Done = nil, 0, 0
			}
		}
		if a, b := with.ask(), without.ask(); !equalAnswers(a, b) || !a.Valid {
			t.Fatalf("%s: %+v, and %+v", textOf(with.g), a, b)
		}
	}
	with := question{g: api.Group{Servers: []api.Server{}, Lead: -1}, h: api.Group{Servers: []api.Server{}}}
	if a, b := with.ask(), (question{g: api.Group{Lead: -1}}).ask(); !equalAnswers(a, b) || a.Valid || len(a.Decided) > 0 {
		t.Errorf("%+v, and %+v", a, b)
	}
}

// P1 and P2 of the document: also groups that are not valid end no function, nor change by it, and have one result each.
func TestGroupsThatAreNotValid(t *testing.T) {
	g := rand.New(rand.NewSource(10))
	wrong := 0
	for range 60000 {
		q := someQuestion(g)
		if g.Intn(4) == 0 {
			q.g.Servers = slices.Repeat(q.g.Servers, 1+g.Intn(12))
		}
		for range 1 + g.Intn(4) {
			s := &q.g.Servers[g.Intn(len(q.g.Servers))]
			fields := []*int{&q.g.Lead, &s.Term, &s.Vote, &s.Sure, &s.Sure, &s.Done, &s.Done}
			if s.Log = slices.Clone(s.Log); len(s.Log) > 0 {
				x := &s.Log[g.Intn(len(s.Log))]
				fields = append(fields, &x.Term, &x.Rec)
			}
			*pick(g, fields) = pick(g, append([]int{0, 1, 2, 3, 4, len(s.Log) + 1, len(s.Log) + 3}, odd...))
		}
		if g.Intn(20) == 0 {
			q.g.Servers = nil
		}
		if g.Intn(2) == 0 {
			q.g, q.h = q.h, q.g
		}
		if q.x.A = g.Intn(len(q.g.Servers)+1) - 1; g.Intn(2) == 0 && q.g.Lead >= 0 && q.g.Lead < 64 {
			q.x.A = q.g.Lead
		}
		plain := copyOf(q.g)
		want := q.ask()
		if want.Valid != validGroup(q.g) || want.DoE != api.OK && !equalGroups(want.Do, q.g) {
			t.Fatalf("%s: %+v: %+v", textOf(q.g), q.x, want)
		}
		if !want.Valid {
			wrong++
		}
		var of room
		q.g, of = roomOf(q.g)
		if got := q.ask(); !equalAnswers(got, want) || !of.has(plain) || !got.spoil() || !of.has(plain) {
			t.Fatalf("%s: %+v: %+v, not %+v", textOf(plain), q.x, got, want)
		}
	}
	if wrong < 20000 {
		t.Errorf("%d were not valid", wrong)
	}
}

// P1 of the document: events with numbers of any kind.
func TestOddEvents(t *testing.T) {
	g := rand.New(rand.NewSource(11))
	numbers := append([]int{0, 1, 2, 3, 4, 5, 6, math.MaxInt}, odd...)
	for range 60000 {
		of := someGroup(g)
		x := api.Event{Kind: pick(g, numbers), A: pick(g, numbers), B: pick(g, numbers), N: pick(g, numbers), Of: pick(g, numbers)}
		if g.Intn(2) == 0 {
			x.A = g.Intn(len(of.Servers))
		}
		want, e := after(of, x)
		if got, f := quorum.Do(of, x); e != f || !equalGroups(got, want) {
			t.Fatalf("%s: %+v: %s, %v, not %s, %v", textOf(of), x, textOf(got), f, textOf(want), e)
		}
	}
}

// P2 of the document: what is asked at the same time does not matter.
func TestAtOnce(t *testing.T) {
	g := rand.New(rand.NewSource(12))
	shared := someQuestion(g)
	for len(quorum.Decided(shared.g)) == 0 {
		shared = someQuestion(g)
	}
	wrong := make([]bool, 8)
	var wait gosync.WaitGroup
	for i := range wrong {
		q := shared
		q.n, q.x = i, someEvent(g, q.g)
		want := q.ask()
		wait.Go(func() {
			for range 300 {
				wrong[i] = wrong[i] || !equalAnswers(q.ask(), want)
			}
		})
	}
	wait.Wait()
	if slices.Contains(wrong, true) {
		t.Error("there were other results")
	}
}

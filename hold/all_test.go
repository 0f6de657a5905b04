package hold_test

import (
	"math"
	"math/rand"
	"slices"
	"sync"
	"testing"

	"burgage/api"
	"burgage/hold"
	"burgage/tree"
)

// unchanged is asked whether a list, and the memory about it, are what they were.
type unchanged func() bool

// roomy returns a copy of l with room before and behind it, in which a stray element shows, and all of that memory.
func roomy[T any](l []T, stray T) (part, whole []T) {
	room := slices.Repeat([]T{stray}, 5)
	whole = slices.Concat(room, l, room)
	return whole[5 : 5+len(l)], whole
}

func watch[T comparable](l []T, stray T) ([]T, unchanged) {
	part, whole := roomy(l, stray)
	kept := slices.Clone(whole)
	return part, func() bool { return slices.Equal(whole, kept) }
}

// sameMemory reports whether two lists are one.
func sameMemory[T any](a, b []T) bool {
	return len(a) == len(b) && cap(a) == cap(b) && (cap(a) == 0 || &a[:1][0] == &b[:1][0])
}

// all is asked whether everything is what it was.
func all(l []unchanged) bool {
	return !slices.ContainsFunc(l, func(is unchanged) bool { return !is() })
}

// watched returns a copy of t whose lists all have room about them.
func watched(t api.Tree) (api.Tree, unchanged) {
	var asked []unchanged
	nodes, whole := roomy(t.Nodes, api.Node{Id: 99})
	for i := range nodes {
		n := &nodes[i]
		var a, b, c unchanged
		n.Acl, a = watch(n.Acl, api.Ace{Who: 99})
		n.List, b = watch(n.List, api.Entry{Name: "stray"})
		n.Body, c = watch(n.Body, of(99, 99, 99))
		asked = append(asked, a, b, c)
	}
	t.Nodes = nodes
	var opens unchanged
	t.Opens, opens = watch(t.Opens, api.Open{Node: 99})
	kept := slices.Clone(whole)
	return t, func() bool {
		return all(append(asked, opens)) && slices.EqualFunc(whole, kept, func(m, n api.Node) bool {
			return m.Id == n.Id && m.Kind == n.Kind && m.Owner == n.Owner && m.Links == n.Links && m.Ver == n.Ver && sameMemory(m.Acl, n.Acl) && sameMemory(m.List, n.List) && sameMemory(m.Body, n.Body)
		})
	}
}

// watchedHolds returns a copy of l whose lists all have room about them.
func watchedHolds(l []api.Hold) ([]api.Hold, unchanged) {
	var asked []unchanged
	part, whole := roomy(l, order(99, 99))
	for i := range part {
		var is unchanged
		part[i].Bind, is = watch(part[i].Bind, api.Bind{Node: 99, N: 99})
		asked = append(asked, is)
	}
	kept := slices.Clone(whole)
	return part, func() bool {
		return all(asked) && slices.EqualFunc(whole, kept, func(a, b api.Hold) bool {
			return a.Id == b.Id && a.Until == b.Until && sameMemory(a.Bind, b.Bind)
		})
	}
}

// watched returns the same arguments with room about all lists.
func (q question) watched() (question, unchanged) {
	var asked [5]unchanged
	q.t, asked[0] = watched(q.t)
	q.other, asked[1] = watched(q.other)
	q.l, asked[2] = watchedHolds(q.l)
	q.x.Acl, asked[3] = watch(q.x.Acl, api.Ace{Who: 99})
	q.pairs, asked[4] = watch(q.pairs, [2]int{99, 99})
	return q, func() bool { return all(asked[:]) }
}

// fill writes x to all memory of l.
func fill[T any](l []T, x T) {
	for i := range l[:cap(l)] {
		l[:cap(l)][i] = x
	}
}

// spoil writes to all memory of the lists that were returned, and reports whether no two of them share any.
func (a answers) spoil() bool {
	var lists [][]api.Bind
	for _, h := range slices.Concat(a.live, a.follow, orders(a.made)) {
		lists = append(lists, h.Bind)
	}
	for i, l := range lists {
		fill(l, api.Bind{Node: i, N: i})
	}
	for i, l := range lists {
		if slices.ContainsFunc(l[:cap(l)], func(b api.Bind) bool { return b.Node != i }) {
			return false
		}
	}
	fill(a.live, order(97, 97))
	fill(a.follow, order(98, 98))
	fill(a.chunks, api.Clash{Chunk: 98, Hold: 98})
	return !slices.ContainsFunc(a.live, func(h api.Hold) bool { return h.Id != 97 })
}

// L8 (P12.1), and P2 of the document: no argument is modified, nor the memory about it, the same arguments have the same results, and these are new memory, also where they are equal to an argument.
func TestArguments(t *testing.T) {
	g := rand.New(rand.NewSource(61))
	blocked, made := 0, 0
	for range 5000 {
		q := someQuestion(g)
		if g.Intn(4) == 0 {
			q.pairs = nil
		}
		want := q.ask()
		roomy, is := q.watched()
		for range 2 {
			got := roomy.ask()
			if !got.equal(want) {
				t.Fatalf("%v: %v, and again %v", q, want, got)
			}
			if !got.spoil() || !is() {
				t.Fatalf("%v: an argument has changed, or results share memory", q)
			}
		}
		if want.blocks {
			blocked++
		}
		if want.madeErr == api.OK {
			made++
		}
	}
	if blocked < 100 || made < 1000 {
		t.Errorf("%d were blocked, and %d orders made", blocked, made)
	}
}

// P1 of the document, P12.1: all operations, paths, numbers, times and pairs are accepted. With an error, or if nothing blocks, other results are zero values.
func TestAllValues(t *testing.T) {
	g := rand.New(rand.NewSource(62))
	numbers := slices.Concat(odd, []int{0, 1, 2, 3, 4, 5, 7, 10, 11, 13, 16, 17, 100, 999, 1000, most, most + 1, api.MaxTime, api.MaxTime + 1})
	texts := []string{"", "a", "a/f", "a/g", "l", "w", "k", "k/t", "z", "a/z", "a/f/z", "/", "a//f", "ä", "a\x00"}
	for range 20000 {
		q := someQuestion(g)
		q.x = api.Op{Kind: pick(g, numbers), Who: pick(g, numbers), Path: pick(g, texts), To: pick(g, texts), Off: pick(g, numbers), N: pick(g, numbers), Id: pick(g, numbers)}
		if g.Intn(2) == 0 {
			q.x.Kind, q.x.Who = 1+g.Intn(16), 0
		}
		q.path, q.id, q.until, q.now = pick(g, texts), pick(g, numbers), pick(g, numbers), pick(g, numbers)
		for range g.Intn(4) {
			q.pairs = append(q.pairs, [2]int{pick(g, numbers), pick(g, numbers)})
		}
		a := q.ask()
		_, err := tree.Find(q.t, q.path)
		if q.id < 1 || q.until < 0 || q.until > 1e9 {
			err = api.ErrArg
		}
		if a.madeErr != err || err != api.OK && !isZero(a.made) || err == api.OK && !equalHold(a.made, api.Hold{Id: q.id, Until: q.until, Bind: bound(q.t, q.path)}) {
			t.Fatalf("%q, %d, %d: %v, %v", q.path, q.id, q.until, a.made, a.madeErr)
		}
		after, _ := tree.Do(q.t, q.x, 1)
		if id, is := firstLost(q.t, after, q.l, q.now); a.blocks != is || a.blocker != id || !a.blocks && a.blocker != 0 {
			t.Fatalf("%v: %d, %v", q, a.blocker, a.blocks)
		}
		if a.kept != kept(q.t, q.other, q.l, q.now) || !slices.Equal(a.chunks, chunks(q.t, q.l, q.now)) || !a.valid || !hold.Valid(a.live) || !hold.Valid(a.follow) || len(a.follow) != len(q.l) {
			t.Fatalf("%v: %v", q, a)
		}
	}
}

// strangeTrees are trees that are not valid.
func strangeTrees() []api.Tree {
	round := sample()
	round.Nodes[1].List = append(round.Nodes[1].List, api.Entry{Name: "z", Id: 1}, api.Entry{Name: "zz", Id: 2}, api.Entry{Name: "zzz", Id: 77})
	full := sample()
	for i := range full.Nodes {
		full.Nodes[i].Body = body(of(1, math.MaxInt, math.MaxInt), of(-7, -1, math.MinInt), of(5000, 0, 1), of(math.MaxInt, 5, -5), of(7, 9, 0), of(7, 12, -3), of(7, 3, 20), hole(-1))
		full.Nodes[i].Links = i - 2
	}
	twice := sample()
	twice.Nodes = append(twice.Nodes, twice.Nodes...)
	return []api.Tree{{}, {Nodes: make([]api.Node, 3)}, round, full, twice, {Next: math.MinInt, Opens: []api.Open{{Node: 5, Who: -1}}}}
}

// P1 of the document, P12.9, and rule 4 of LANGUAGE.md: no function fails to end, or panics, with trees and holds that are not valid.
func TestWhatIsNotValid(t *testing.T) {
	g := rand.New(rand.NewSource(63))
	trees := strangeTrees()
	numbers := slices.Concat(odd, []int{0, 1, 3, 4, 13})
	for range 5000 {
		q := someQuestion(g)
		q.t, q.other = pick(g, append(trees, q.t)), pick(g, append(trees, q.other))
		for range 1 + g.Intn(20) {
			h := order(pick(g, numbers), pick(g, numbers))
			for range g.Intn(6) {
				h.Bind = append(h.Bind, api.Bind{Node: pick(g, numbers), N: pick(g, numbers)})
			}
			q.l = append(q.l, h)
		}
		a := q.ask()
		if a.valid != valid(q.l) || len(a.follow) != len(q.l) || a.madeErr != api.OK && !isZero(a.made) || !a.blocks && a.blocker != 0 {
			t.Fatalf("%v: %v", q, a)
		}
	}
}

// P1 and P2 of the document: nil and empty lists are the same.
func TestNilAndEmpty(t *testing.T) {
	with := question{t: sample(), other: sample(), l: []api.Hold{}, x: unlink("a/f"), path: "e", id: 1, until: 50, pairs: [][2]int{}}
	without := with
	without.l, without.pairs = nil, nil
	a, b := with.ask(), without.ask()
	if !a.equal(b) || !a.valid || a.blocks || !a.kept || len(a.live)+len(a.follow)+len(a.chunks) > 0 {
		t.Errorf("%v, and %v", a, b)
	}
	with.l, without.l = orders(api.Hold{Id: 1, Until: 50, Bind: []api.Bind{}}), orders(order(1, 50))
	if a, b := with.ask(), without.ask(); !a.equal(b) || !a.valid || a.blocks || !a.kept || len(a.live) != 1 || len(a.follow) != 1 {
		t.Errorf("%v, and %v", a, b)
	}
	empty := copyOf(sample())
	for i := range empty.Nodes {
		n := &empty.Nodes[i]
		n.Acl, n.List, n.Body = append([]api.Ace{}, n.Acl...), append([]api.Entry{}, n.List...), append([]api.Piece{}, n.Body...)
	}
	everything := orders(api.Hold{Id: 1, Until: 50, Bind: bound(sample(), "")})
	if !hold.Kept(empty, sample(), everything, 1) || !hold.Kept(sample(), empty, everything, 1) {
		t.Error("empty bodies are not kept")
	}
}

// P2 of the document: what is asked at the same time does not matter.
func TestAtOnce(t *testing.T) {
	g := rand.New(rand.NewSource(64))
	shared := someQuestion(g)
	wrong := make([]bool, 8)
	var wait sync.WaitGroup
	for i := range wrong {
		q := shared
		q.l = orders(order(1, 101, 3, i, 13, 2*i), order(4, 105, 3, 10-i, 4, 5))
		q.x, q.id, q.until, q.path = cut("a/f", i), 1, 50, pick(g, []string{"", "a", "k/u"})
		want := q.ask()
		wait.Go(func() {
			for range 200 {
				wrong[i] = wrong[i] || !q.ask().equal(want)
			}
		})
	}
	wait.Wait()
	if slices.Contains(wrong, true) {
		t.Error("there were other results")
	}
}

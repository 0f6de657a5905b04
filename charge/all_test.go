package charge_test

import (
	"math"
	"math/rand"
	"slices"
	"sync"
	"testing"

	"burgage/api"
	"burgage/charge"
	"burgage/tree"
)

// answers has the results of all functions for some arguments.
type answers struct {
	all, one        api.Use
	of, delta, sums []api.Account
	fits, blocks    bool
	set             []api.Limit
	setErr          api.Errno
	held            []int
}

// answersOf asks all functions.
func answersOf(t api.Tree, x api.Op, l, d []api.Account, lim []api.Limit, y api.Limit, s []api.Snap) answers {
	a := answers{all: charge.All(l), one: charge.Get(l, y.Owner), of: charge.Of(t), delta: charge.Delta(t, x), sums: charge.Add(l, d), fits: charge.Fits(l, lim), blocks: charge.Blocks(t, x, lim), held: charge.Held(t, s)}
	a.set, a.setErr = charge.Set(lim, y)
	return a
}

func (a answers) equal(b answers) bool {
	return a.all == b.all && a.one == b.one && slices.Equal(a.of, b.of) && slices.Equal(a.delta, b.delta) && slices.Equal(a.sums, b.sums) && a.fits == b.fits && a.blocks == b.blocks &&
		slices.Equal(a.set, b.set) && a.setErr == b.setErr && slices.Equal(a.held, b.held)
}

// spoil writes x to all memory of the lists that were returned.
func (a answers) spoil() {
	for _, l := range [][]api.Account{a.of, a.delta, a.sums} {
		spoil(l, account(98, 98, 98))
	}
	spoil(a.set, limit(98, 98, 98))
	spoil(a.held, 98)
}

// spoil writes x to all memory of l.
func spoil[T any](l []T, x T) {
	for i := range l[:cap(l)] {
		l[:cap(l)][i] = x
	}
}

// unchanged is asked whether a list, and the memory about it, are what they were.
type unchanged func() bool

// roomy returns a copy of l with room before and behind it, in which a stray element shows, and all of that memory.
func roomy[T any](l []T, stray T) (part, whole []T) {
	room := slices.Repeat([]T{stray}, 5)
	whole = slices.Concat(room, l, room)
	return whole[5 : 5+len(l)], whole
}

func watch[T comparable](l []T, stray T) ([]T, unchanged) {
	part, whole := roomy(l, stray)
	kept := slices.Clone(whole)
	return part, func() bool { return slices.Equal(whole, kept) }
}

// all is asked whether everything is what it was.
func all(l []unchanged) bool {
	return !slices.ContainsFunc(l, func(is unchanged) bool { return !is() })
}

// sameMemory reports whether two lists are one.
func sameMemory[T any](a, b []T) bool {
	return len(a) == len(b) && cap(a) == cap(b) && (cap(a) == 0 || &a[:1][0] == &b[:1][0])
}

// watched returns a copy of t whose lists all have room about them.
func watched(t api.Tree) (api.Tree, unchanged) {
	var asked []unchanged
	nodes, whole := roomy(t.Nodes, api.Node{Id: 99})
	for i := range nodes {
		n := &nodes[i]
		var a, b, c unchanged
		n.Acl, a = watch(n.Acl, api.Ace{Who: 99})
		n.List, b = watch(n.List, api.Entry{Name: "stray"})
		n.Body, c = watch(n.Body, of(99, 99, 99))
		asked = append(asked, a, b, c)
	}
	t.Nodes = nodes
	var opens unchanged
	t.Opens, opens = watch(t.Opens, api.Open{Node: 99})
	kept := slices.Clone(whole)
	return t, func() bool {
		return all(append(asked, opens)) && slices.EqualFunc(whole, kept, func(m, n api.Node) bool {
			return m.Id == n.Id && m.Kind == n.Kind && m.Owner == n.Owner && m.Links == n.Links && m.Ver == n.Ver && sameMemory(m.Acl, n.Acl) && sameMemory(m.List, n.List) && sameMemory(m.Body, n.Body)
		})
	}
}

// watchedSnaps returns a copy of l whose lists all have room about them.
func watchedSnaps(l []api.Snap) ([]api.Snap, unchanged) {
	var asked []unchanged
	part, whole := roomy(l, api.Snap{Id: 99})
	for i := range part {
		var is unchanged
		part[i].Tree, is = watched(part[i].Tree)
		asked = append(asked, is)
	}
	kept := slices.Clone(whole)
	return part, func() bool {
		return all(asked) && slices.EqualFunc(whole, kept, func(a, b api.Snap) bool {
			return a.Id == b.Id && a.Name == b.Name && a.Tree.Next == b.Tree.Next && sameMemory(a.Tree.Nodes, b.Tree.Nodes) && sameMemory(a.Tree.Opens, b.Tree.Opens)
		})
	}
}

// J9 (P10.1), and P2 of the document: no argument is modified, nor the memory about it, the same arguments have the same results, and these are new memory.
func TestArguments(t *testing.T) {
	g := rand.New(rand.NewSource(41))
	for range 2000 {
		s := pick(g, []api.Tree{sample(), someFiles(g)})
		x, l, d, lim, shelf := someOp(g, s), someAccounts(g), someAccounts(g), someLimits(g, byOwner(s)), snaps(sample(), s, someFiles(g))[g.Intn(4):]
		y := limit(g.Intn(12)-2, g.Intn(9)-1, g.Intn(9)-1)
		want := answersOf(s, x, l, d, lim, y, shelf)
		var asked [6]unchanged
		s, asked[0] = watched(s)
		x.Acl, asked[1] = watch(x.Acl, api.Ace{Who: 99})
		l, asked[2] = watch(l, account(99, 99, 99))
		d, asked[3] = watch(d, account(99, 99, 99))
		lim, asked[4] = watch(lim, limit(99, 99, 99))
		shelf, asked[5] = watchedSnaps(shelf)
		for range 2 {
			got := answersOf(s, x, l, d, lim, y, shelf)
			if !got.equal(want) {
				t.Fatalf("%v, %v, %v, %v, %v, %v: %v, and again %v", s, x, l, d, lim, y, want, got)
			}
			got.spoil()
			if !all(asked[:]) {
				t.Fatalf("%v, %v, %v, %v, %v, %v: an argument has changed", s, x, l, d, lim, y)
			}
		}
	}
}

// P1 of the document, P10.1: all operations and numbers are accepted. With an error, limits are what they were, and accounts do not change.
func TestAllValues(t *testing.T) {
	g := rand.New(rand.NewSource(42))
	numbers := append([]int{0, 1, 2, 3, 5, 7, 10, 16, 17, 999}, odd...)
	texts := []string{"", "a", "a/f", "l", "w", "k", "z", "a/b/s", "/", "a//f", "ä", "a\x00"}
	for range 20000 {
		x := api.Op{Kind: pick(g, numbers), Who: pick(g, numbers), Path: pick(g, texts), To: pick(g, texts), Off: pick(g, numbers), N: pick(g, numbers), Id: pick(g, numbers)}
		if g.Intn(2) == 0 {
			x.Kind, x.Who = 1+g.Intn(16), 0
		}
		l := accounts(account(g.Intn(3), pick(g, numbers[1:]), pick(g, numbers)), account(3+g.Intn(900), pick(g, numbers[1:]), pick(g, numbers)))
		lim := limits(limit(-1, max(pick(g, numbers), 0), max(pick(g, numbers), 0)), limit(g.Intn(9), max(pick(g, numbers), 0), max(pick(g, numbers), 0)))
		y := limit(pick(g, numbers), pick(g, numbers), pick(g, numbers))
		a := answersOf(sample(), x, l, l, lim, y, nil)
		if a.setErr != api.OK && !slices.Equal(a.set, lim) || (a.setErr == api.OK) != (y.Owner >= -1 && y.Owner <= 999 && y.Max.Nodes >= 0 && y.Max.Bytes >= 0) {
			t.Fatalf("%v to %v: %v, %v", y, lim, a.set, a.setErr)
		}
		after, reply := tree.Do(sample(), x, 1)
		before := byOwner(sample())
		if !slices.Equal(a.delta, grown(before, byOwner(after))) || a.blocks != blocks(before, byOwner(after), lim) || reply.E != api.OK && (a.blocks || len(a.delta) > 0) {
			t.Fatalf("%v with %v: %v, %v", x, lim, a.delta, a.blocks)
		}
	}
}

// strange are trees that are not valid.
func strange() []api.Tree {
	round := sample()
	round.Nodes[1].List = append(round.Nodes[1].List, api.Entry{Name: "z", Id: 1}, api.Entry{Name: "zz", Id: 2}, api.Entry{Name: "zzz", Id: 77})
	full := sample()
	for i := range full.Nodes {
		full.Nodes[i].Body = body(of(1, math.MaxInt, math.MaxInt), of(-7, -1, math.MinInt), of(5000, 0, 1), of(math.MaxInt, 5, -5), of(7, 9, 0), of(7, 12, -3), of(7, 3, 20), hole(-1))
		full.Nodes[i].Owner = odd[i]
	}
	files := sample()
	for i := range files.Nodes {
		files.Nodes[i].Kind = api.File
	}
	twice := sample()
	twice.Nodes = append(twice.Nodes, twice.Nodes...)
	return []api.Tree{{}, {Nodes: make([]api.Node, 3)}, round, full, files, twice, {Next: math.MinInt, Opens: []api.Open{{Node: 5, Who: -1}}}}
}

// P1 of the document, and rule 4 of LANGUAGE.md: no function fails to end, or panics, with trees, accounts and limits that are not valid.
func TestWhatIsNotValid(t *testing.T) {
	g := rand.New(rand.NewSource(43))
	for _, s := range strange() {
		for range 100 {
			x := api.Op{Kind: 1 + g.Intn(16), Path: pick(g, []string{"", "a", "a/f", "a/z/z", "a/zzz", "l", "w", "k/t"}), To: pick(g, []string{"z", "a/z", "a/zz/q", "l", "e"}), Off: pick(g, odd), N: g.Intn(14), Id: g.Intn(14)}
			var l []api.Account
			var lim []api.Limit
			for range g.Intn(20) {
				l = append(l, account(pick(g, odd), pick(g, odd), g.Intn(2)))
				lim = append(lim, limit(pick(g, odd), pick(g, odd), g.Intn(2)))
			}
			a := answersOf(s, x, l, l, lim, limit(pick(g, odd), 1, 1), snaps(s, sample(), s))
			if len(a.held) != 4 || tree.Valid(s) {
				t.Fatalf("%v, %v: %v", s, x, a)
			}
		}
	}
}

// P2 of the document: what is asked at the same time does not matter.
func TestAtOnce(t *testing.T) {
	s, l, lim := sample(), charge.Of(sample()), limits(limit(-1, 9, 30), limit(5, 3, 9))
	wrong := make([]bool, 8)
	var wait sync.WaitGroup
	for i := range wrong {
		x, y := changes()[5*i].x, limit(i, i, i)
		want := answersOf(s, x, l, l[:i%3], lim, y, snaps(s, files(body(of(7, i, 20)))))
		wait.Go(func() {
			for range 100 {
				wrong[i] = wrong[i] || !answersOf(s, x, l, l[:i%3], lim, y, snaps(s, files(body(of(7, i, 20))))).equal(want)
			}
		})
	}
	wait.Wait()
	if slices.Contains(wrong, true) {
		t.Error("there were other results")
	}
}

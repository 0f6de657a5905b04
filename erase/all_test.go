package erase_test

import (
	"math"
	"math/rand"
	"slices"
	"sync"
	"testing"

	"burgage/api"
	"burgage/erase"
	"burgage/tree"
)

// unchanged is asked whether a list, and the memory about it, are what they were.
type unchanged func() bool

// all is asked whether everything is what it was.
func all(l []unchanged) bool {
	return !slices.ContainsFunc(l, func(is unchanged) bool { return !is() })
}

// sameMemory reports whether two lists are one.
func sameMemory[T any](a, b []T) bool {
	return len(a) == len(b) && cap(a) == cap(b) && (cap(a) == 0 || &a[:1][0] == &b[:1][0])
}

// watchBy returns a copy of l with room before and behind it, in which a stray element shows, and what tells whether all of that memory is what it was.
func watchBy[T any](l []T, stray T, same func(a, b T) bool) ([]T, unchanged) {
	room := slices.Repeat([]T{stray}, 5)
	whole := slices.Concat(room, l, room)
	kept := slices.Clone(whole)
	return whole[5 : 5+len(l)], func() bool { return slices.EqualFunc(whole, kept, same) }
}

func watch[T comparable](l []T, stray T) ([]T, unchanged) {
	return watchBy(l, stray, func(a, b T) bool { return a == b })
}

// sameNode reports whether two nodes are one, with lists in the same memory.
func sameNode(m, n api.Node) bool {
	return m.Id == n.Id && m.Kind == n.Kind && m.Owner == n.Owner && m.Links == n.Links && m.Ver == n.Ver && sameMemory(m.Acl, n.Acl) && sameMemory(m.List, n.List) && sameMemory(m.Body, n.Body)
}

// watched returns a copy of t whose lists all have room about them.
func watched(t api.Tree) (api.Tree, unchanged) {
	var asked []unchanged
	nodes := slices.Clone(t.Nodes)
	for i := range nodes {
		n := &nodes[i]
		var a, b, c unchanged
		n.Acl, a = watch(n.Acl, api.Ace{Who: 99})
		n.List, b = watch(n.List, api.Entry{Name: "stray"})
		n.Body, c = watch(n.Body, of(99, 99, 99))
		asked = append(asked, a, b, c)
	}
	var list, opens unchanged
	t.Nodes, list = watchBy(nodes, api.Node{Id: 99}, sameNode)
	t.Opens, opens = watch(t.Opens, api.Open{Node: 99})
	return t, func() bool { return all(append(asked, list, opens)) }
}

// watched returns the same arguments with room about all lists.
func (q question) watched() (question, unchanged) {
	var asked []unchanged
	add := func(is unchanged) { asked = append(asked, is) }
	var is unchanged
	q.t, is = watched(q.t)
	add(is)
	many := slices.Clone(q.trees)
	for i := range many {
		many[i], is = watched(many[i])
		add(is)
	}
	q.trees, is = watchBy(many, tree.New(9), func(a, b api.Tree) bool {
		return a.Next == b.Next && sameMemory(a.Nodes, b.Nodes) && sameMemory(a.Opens, b.Opens)
	})
	add(is)
	holds := slices.Clone(q.holds)
	for i := range holds {
		holds[i].Bind, is = watch(holds[i].Bind, api.Bind{Node: 99, N: 99})
		add(is)
	}
	q.holds, is = watchBy(holds, order(99, 99), func(a, b api.Hold) bool {
		return a.Id == b.Id && a.Until == b.Until && sameMemory(a.Bind, b.Bind)
	})
	add(is)
	q.chunks, is = watch(q.chunks, 99)
	add(is)
	q.ids, is = watch(q.ids, 99)
	add(is)
	return q, func() bool { return all(asked) }
}

// fill writes x to all memory of l.
func fill[T any](l []T, x T) {
	for i := range l[:cap(l)] {
		l[:cap(l)][i] = x
	}
}

// filled reports whether all memory of l still has x.
func filled[T comparable](l []T, x T) bool {
	return !slices.ContainsFunc(l[:cap(l)], func(y T) bool { return y != x })
}

// spoil writes to all memory of the lists that were returned, and reports whether no two of them share any.
func (a answers) spoil() bool {
	lists := [][]int{a.files, a.chunks, a.made.Nodes, a.made.Chunks}
	for i, l := range lists {
		fill(l, i)
	}
	for i, n := range a.stripped.Nodes {
		fill(n.Acl, api.Ace{Who: i})
		fill(n.List, api.Entry{Id: i})
		fill(n.Body, of(i, i, i))
	}
	apart := true
	for i, l := range lists {
		apart = apart && filled(l, i)
	}
	for i, n := range a.stripped.Nodes {
		apart = apart && filled(n.Acl, api.Ace{Who: i}) && filled(n.List, api.Entry{Id: i}) && filled(n.Body, of(i, i, i))
	}
	fill(a.stripped.Nodes, api.Node{Id: 98})
	fill(a.stripped.Opens, api.Open{Node: 98})
	fill(a.clashes, api.Clash{Chunk: 98, Hold: 98})
	return apart
}

// M7 (P13.1), and P2 of the document: no argument is modified, nor the memory about it, the same arguments have the same results, and these are new memory, also where they are equal to an argument.
func TestArguments(t *testing.T) {
	g := rand.New(rand.NewSource(41))
	var clashing, made, same int
	for range 5000 {
		q := someQuestion(g)
		if g.Intn(4) == 0 {
			q.chunks = nil
		}
		want := q.ask()
		roomy, is := q.watched()
		for range 2 {
			got := roomy.ask()
			if !got.equal(want) {
				t.Fatalf("%v: %v, and again %v", q, want, got)
			}
			if !got.spoil() || !is() {
				t.Fatalf("%v: an argument has changed, or results share memory", q)
			}
		}
		if len(want.clashes) > 0 {
			clashing++
		}
		if want.madeOf == api.OK {
			made++
		}
		if want.clean {
			same++
		}
	}
	if clashing < 250 || made < 1000 || same < 1000 {
		t.Errorf("%d were clashing, %d orders were made, and %d trees stayed", clashing, made, same)
	}
}

// P1 of the document, P13.1: all paths, numbers, times, lists of numbers and of holds are accepted. With an error, other results are zero values.
func TestAllValues(t *testing.T) {
	g := rand.New(rand.NewSource(42))
	numbers := append(slices.Clone(odd), 0, 1, 2, 3, 4, 5, 7, 8, 9, 10, 11, 13, 100, 4095, 4096, most, most+1, api.MaxTime, api.MaxTime+1)
	texts := []string{"", "a", "a/f", "a/g", "l", "w", "k", "k/t", "e", "a/d", "z", "a/z", "a/f/z", "/", "a//f", "ä", "a\x00"}
	for range 10000 {
		q := someQuestion(g)
		q.path, q.id, q.by = pick(g, texts), pick(g, numbers), pick(g, numbers)
		for range g.Intn(5) {
			q.chunks, q.ids = append(q.chunks, pick(g, numbers)), append(q.ids, pick(g, numbers))
			h := order(pick(g, numbers), pick(g, numbers))
			for range g.Intn(5) {
				h.Bind = append(h.Bind, api.Bind{Node: pick(g, numbers), N: pick(g, numbers)})
			}
			q.holds = append(q.holds, h)
		}
		a := q.ask()
		_, err := tree.Find(q.t, q.path)
		if a.filesErr != err || err != api.OK && len(a.files) > 0 || err == api.OK && !slices.Equal(a.files, filesAt(q.t, q.path)) {
			t.Fatalf("%q: %v, %v", q.path, a.files, a.filesErr)
		}
		if err == api.OK && len(a.files) == 0 {
			err = api.ErrNone
		}
		if a.madeOf != err || err != api.OK && !isZero(a.made) || err == api.OK && !equalOrder(a.made, api.Order{Id: q.id, By: q.by, Nodes: a.files, Chunks: usedBy(q.t, a.files)}) {
			t.Fatalf("%q, %d, %d: %v, %v", q.path, q.id, q.by, a.made, a.madeOf)
		}
		if !slices.Equal(a.chunks, usedBy(q.t, q.ids)) || !slices.Equal(a.clashes, clashesOf(q.trees, q.holds, q.chunks, q.by)) || !equalTrees(a.stripped, without(q.t, q.chunks)) || a.clean != equalTrees(a.stripped, q.t) {
			t.Fatalf("%v: %v", q, a)
		}
	}
}

// strangeTrees are trees that are not valid.
func strangeTrees() []api.Tree {
	round := sample()
	round.Nodes[1].List = append(round.Nodes[1].List, api.Entry{Name: "z", Id: 1}, api.Entry{Name: "zz", Id: 2}, api.Entry{Name: "zzz", Id: 77})
	full := sample()
	for i := range full.Nodes {
		full.Nodes[i].Body = body(of(1, math.MaxInt, math.MaxInt), of(-7, -1, math.MinInt), of(5000, 0, 1), of(math.MaxInt, 5, -5), of(7, 9, 0), of(7, 12, -3), of(7, 3, 20), hole(-1))
		full.Nodes[i].Links = i - 2
	}
	twice := sample()
	twice.Nodes = append(twice.Nodes, twice.Nodes...)
	return []api.Tree{{}, {Nodes: make([]api.Node, 3)}, round, full, twice, {Next: math.MinInt, Opens: []api.Open{{Node: 5, Who: -1}}}}
}

// P1 of the document, and rule 4 of LANGUAGE.md: no function fails to end, or panics, with trees that are not valid.
func TestTreesThatAreNotValid(t *testing.T) {
	g := rand.New(rand.NewSource(43))
	l := strangeTrees()
	for range 5000 {
		q := someQuestion(g)
		q.t = pick(g, l)
		q.trees = append(q.trees, pick(g, l), pick(g, l))
		if a := q.ask(); a.filesErr != api.OK && len(a.files) > 0 || a.madeOf != api.OK && !isZero(a.made) || len(a.stripped.Nodes) != len(q.t.Nodes) {
			t.Fatalf("%v: %v", q, a)
		}
	}
}

// P1 and P2 of the document: nil and empty lists are the same.
func TestNilAndEmpty(t *testing.T) {
	with := question{t: sample(), trees: trees(), holds: []api.Hold{}, chunks: []int{}, ids: []int{}, path: "k/t"}
	without := with
	without.trees, without.holds, without.chunks, without.ids = nil, nil, nil, nil
	a, b := with.ask(), without.ask()
	if !a.equal(b) || !a.clean || len(a.chunks)+len(a.clashes) > 0 || !equalTrees(a.stripped, sample()) {
		t.Errorf("%v, and %v", a, b)
	}
	empty := sample()
	for i := range empty.Nodes {
		n := &empty.Nodes[i]
		n.Acl, n.List, n.Body = append([]api.Ace{}, n.Acl...), append([]api.Entry{}, n.List...), append([]api.Piece{}, n.Body...)
	}
	with = question{t: empty, trees: trees(empty), holds: orders(api.Hold{Id: 1, Until: 5, Bind: []api.Bind{}}, order(2, 5, 12, 9, 3, 9)), chunks: ints(7), ids: ints(12, 3)}
	without = with
	without.t, without.trees, without.holds = sample(), trees(sample()), orders(order(1, 5), with.holds[1])
	if a, b := with.ask(), without.ask(); !a.equal(b) || !slices.Equal(a.clashes, clashes(7, 2)) {
		t.Errorf("%v, and %v", a, b)
	}
}

// P2 of the document: what is asked at the same time does not matter.
func TestAtOnce(t *testing.T) {
	shared := question{t: sample(), trees: trees(sample(), files(body(of(8, 0, 9)))), holds: orders(order(3, 101, 13, 9, 2, 4), order(2, 102, 3, 5)), path: "a"}
	wrong := make([]bool, 8)
	var wait sync.WaitGroup
	for i := range wrong {
		q := shared
		q.chunks, q.ids, q.id, q.by = ints(8, i, 7), ints(i, 13), i, 98+i
		want := q.ask()
		wait.Go(func() {
			for range 200 {
				wrong[i] = wrong[i] || !q.ask().equal(want)
			}
		})
	}
	wait.Wait()
	if slices.Contains(wrong, true) {
		t.Error("there were other results")
	}
}

// P13.1 (M3), and P1 of the document: long lists, each of which is looked at a few times only.
func TestLongLists(t *testing.T) {
	var chunks, ids []int
	h := order(5, 11)
	for i := range 200000 {
		chunks, ids = append(chunks, 200000-i), append(ids, i)
		h.Bind = append(h.Bind, api.Bind{Node: i%20 - 3, N: i % 7})
	}
	holds := slices.Repeat(orders(h), 10)
	for i := range 200000 {
		holds = append(holds, order(i, 10, 3, 9))
	}
	if got := erase.Clashes(trees(sample()), holds, chunks, 10); !slices.Equal(got, clashes(7, 5, 8, 5, 9, 5)) {
		t.Errorf("Clashes: %v", got)
	}
	if got := erase.Chunks(sample(), ids); !slices.Equal(got, ints(7, 8, 9, 4095)) {
		t.Errorf("Chunks: %v", got)
	}
	if got := erase.Strip(sample(), chunks); !erase.Clean(got, chunks) || erase.Clean(sample(), chunks) {
		t.Errorf("Strip: %v", got)
	}
}

package tree_test

import (
	"math"
	"math/rand"
	"slices"
	"strings"
	"sync"
	"testing"

	"burgage/api"
	"burgage/tree"
)

// answers has the results of all functions for some arguments.
type answers struct {
	made, after, part, rest, grown api.Tree
	valid, reads, same             bool
	node                           api.Node
	found                          int
	reply                          api.Reply
	below, used                    []int
	paths                          []string
	getErr, findErr                api.Errno
	partErr, restErr, grownErr     api.Errno
}

// answersOf asks all functions.
func answersOf(t, s api.Tree, x api.Op, path string, id int) answers {
	a := answers{made: tree.New(id), valid: tree.Valid(t), reads: tree.Reads(x.Kind), same: tree.Same(t, s), below: tree.Below(t, id), used: tree.Used(t), paths: tree.Paths(t, id)}
	a.after, a.reply = tree.Do(t, x, id)
	a.node, a.getErr = tree.Get(t, id)
	a.found, a.findErr = tree.Find(t, path)
	a.part, a.partErr = tree.Sub(t, path)
	a.rest, a.restErr = tree.Without(t, path)
	a.grown, a.grownErr = tree.Graft(t, path, s)
	return a
}

func (a answers) equal(b answers) bool {
	return equal(a.made, b.made) && equal(a.after, b.after) && equal(a.part, b.part) && equal(a.rest, b.rest) && equal(a.grown, b.grown) &&
		a.valid == b.valid && a.reads == b.reads && a.same == b.same && equalNodes(a.node, b.node) && a.found == b.found && equalReplies(a.reply, b.reply) &&
		slices.Equal(a.below, b.below) && slices.Equal(a.used, b.used) && slices.Equal(a.paths, b.paths) &&
		a.getErr == b.getErr && a.findErr == b.findErr && a.partErr == b.partErr && a.restErr == b.restErr && a.grownErr == b.grownErr
}

// empty reports whether there is nothing with errors.
func (a answers) empty() bool {
	return (a.reply.E == api.OK || equalReplies(a.reply, api.Reply{E: a.reply.E})) &&
		(a.getErr == api.OK || equalNodes(a.node, api.Node{})) && (a.findErr == api.OK || a.found == 0) &&
		(a.partErr == api.OK || isEmpty(a.part)) && (a.restErr == api.OK || isEmpty(a.rest)) && (a.grownErr == api.OK || isEmpty(a.grown))
}

// roomy returns a copy of l with room before and behind it, in which a stray element shows, and all of that memory.
func roomy[T any](l []T, stray T) (part, whole []T) {
	room := slices.Repeat([]T{stray}, 5)
	whole = slices.Concat(room, l, room)
	return whole[5 : 5+len(l)], whole
}

// unchanged is asked whether a list, and the memory about it, are what they were.
type unchanged func() bool

func watch[T comparable](l []T, stray T) ([]T, unchanged) {
	part, whole := roomy(l, stray)
	kept := slices.Clone(whole)
	return part, func() bool { return slices.Equal(whole, kept) }
}

// watched returns a copy of t whose lists all have room about them.
func watched(t api.Tree) (api.Tree, unchanged) {
	var asked []unchanged
	nodes, whole := roomy(t.Nodes, api.Node{Id: 99})
	for i := range nodes {
		n := &nodes[i]
		var a, b, c unchanged
		n.Acl, a = watch(n.Acl, api.Ace{Who: 99})
		n.List, b = watch(n.List, api.Entry{Name: "stray"})
		n.Body, c = watch(n.Body, of(99, 99, 99))
		asked = append(asked, a, b, c)
	}
	t.Nodes = nodes
	var d unchanged
	t.Opens, d = watch(t.Opens, api.Open{Node: 99})
	kept := slices.Clone(whole)
	return t, func() bool {
		for _, is := range append(asked, d) {
			if !is() {
				return false
			}
		}
		return slices.EqualFunc(whole, kept, func(m, n api.Node) bool {
			return equalNodes(m, n) && atSamePlace(m.Acl, n.Acl) && atSamePlace(m.List, n.List) && atSamePlace(m.Body, n.Body)
		})
	}
}

func atSamePlace[T any](a, b []T) bool {
	return cap(a) == cap(b) && (cap(a) == 0 || &a[:1][0] == &b[:1][0])
}

// spoil writes x to all memory of l.
func spoil[T any](l []T, x T) {
	for i := range l[:cap(l)] {
		l[:cap(l)][i] = x
	}
}

// spoilNode writes to all memory of lists of a node.
func spoilNode(n api.Node) {
	spoil(n.Acl, allow(98, 7))
	spoil(n.List, api.Entry{Name: "spoilt", Id: 98})
	spoil(n.Body, of(98, 98, 98))
}

// spoilTree writes to all memory of a tree.
func spoilTree(t api.Tree) {
	for _, n := range t.Nodes {
		spoilNode(n)
	}
	spoil(t.Nodes, api.Node{Id: 98})
	spoil(t.Opens, api.Open{Node: 98})
}

// I9 (P9.1), and P2 of the document: no argument is modified, nor the memory about it, the same arguments have the same results, and these are new memory.
func TestArguments(t *testing.T) {
	g := rand.New(rand.NewSource(11))
	for range 40 {
		s, other := pick(g, []api.Tree{sample(), deep(t, 5)}), sample()
		for range 60 {
			o, path, id := someOp(g, s), somePath(g, s), g.Intn(14)
			plain := copyOf(s)
			want := answersOf(plain, copyOf(other), o, path, id)
			watchedTree, first := watched(s)
			watchedOther, second := watched(other)
			list, third := watch(o.Acl, allow(99, 7))
			o.Acl = list
			got := answersOf(watchedTree, watchedOther, o, path, id)
			if !got.equal(want) {
				t.Fatalf("%v of %v, %q, %d: %v, and again %v", o, s, path, id, want, got)
			}
			s = copyOf(want.after)
			for _, x := range []api.Tree{got.made, got.after, got.part, got.rest, got.grown} {
				spoilTree(x)
			}
			spoilNode(got.node)
			spoilNode(got.reply.Node)
			spoil(got.reply.Names, "spoilt")
			spoil(got.reply.Body, of(98, 98, 98))
			spoil(got.below, 98)
			spoil(got.used, 98)
			spoil(got.paths, "spoilt")
			if !first() || !second() || !third() || !equal(watchedTree, plain) || !equal(watchedOther, other) {
				t.Fatalf("%v of %v, %q, %d: an argument has changed", o, s, path, id)
			}
			if again := answersOf(watchedTree, watchedOther, o, path, id); !again.equal(want) {
				t.Fatalf("%v of %v, %q, %d: what was done with results matters", o, s, path, id)
			}
		}
	}
}

// P2 of the document, and rule 7 of LANGUAGE.md: no two lists of one result share memory.
func TestResultsShareNothing(t *testing.T) {
	g := rand.New(rand.NewSource(12))
	for range 40 {
		s := sample()
		for range 40 {
			o, path := someOp(g, s), somePath(g, s)
			for _, kind := range []int{o.Kind, api.Stat, api.SetAcl} {
				o.Kind = kind
				a := answersOf(s, sample(), o, path, 1)
				want := copyOf(a.after)
				spoilNode(a.reply.Node)
				spoil(a.reply.Names, "spoilt")
				spoil(a.reply.Body, of(98, 98, 98))
				if !equal(a.after, want) {
					t.Fatalf("%v of %v: the reply and the tree share memory", o, s)
				}
				for _, x := range []api.Tree{a.after, a.part, a.rest, a.grown} {
					for i, n := range x.Nodes {
						want := copyOf(x)
						spoilNode(n)
						want.Nodes[i], x.Nodes[i] = api.Node{}, api.Node{}
						if !equal(x, want) {
							t.Fatalf("%v of %v: nodes share memory", o, s)
						}
					}
				}
			}
			s, _ = tree.Do(s, o, now)
		}
	}
}

// P1 of the document, P9.3: with an error, there is nothing else, and the tree is what it was.
func TestErrors(t *testing.T) {
	g := rand.New(rand.NewSource(13))
	counts := map[bool]int{}
	for range 60 {
		s := sample()
		for range 60 {
			o, path, id := someOp(g, s), somePath(g, s), g.Intn(20)-2
			a := answersOf(s, sample(), o, path, id)
			if !a.empty() || a.reply.E != api.OK && !equal(a.after, s) || a.reads && !equal(a.after, s) || !a.valid {
				t.Fatalf("%v of %v, %q, %d: %v", o, s, path, id, a)
			}
			counts[a.reply.E == api.OK]++
			s = a.after
		}
	}
	if counts[true] < 500 || counts[false] < 500 {
		t.Errorf("the operations were %v", counts)
	}
}

// P1 of the document: all numbers and texts are accepted.
func TestAllValues(t *testing.T) {
	g := rand.New(rand.NewSource(14))
	numbers := append(slices.Clone(odd), 0, 1, 2, 3, 4, 10, 11, 16, 17, 999, 1<<20, 4096, math.MinInt+1)
	texts := append(slices.Clone(noPaths), "", "a", "a/f", "l", "w", "k", "z", "a/b/s", "k/u")
	aces := []api.Ace{allow(1, r), {}, given(allow(8, w)), {Who: math.MinInt, Rights: math.MaxInt, Reach: -1}}
	for range 60000 {
		o := api.Op{Kind: pick(g, numbers), Who: pick(g, numbers), Path: pick(g, texts), To: pick(g, texts), Off: pick(g, numbers), N: pick(g, numbers), Id: pick(g, numbers)}
		if g.Intn(3) > 0 {
			o.Kind, o.Who = 1+g.Intn(16), pick(g, []int{0, 8})
		}
		for range g.Intn(4) {
			o.Acl = append(o.Acl, pick(g, aces))
		}
		s, ver := sample(), pick(g, numbers)
		got, reply := tree.Do(s, o, ver)
		want, wantReply := expected(s, o, ver)
		if !equal(got, want) || !equalReplies(reply, wantReply) || !tree.Valid(got) {
			t.Fatalf("%v, %d: %v, %v, not %v, %v", o, ver, got, reply, want, wantReply)
		}
	}
}

// strange are trees that are not valid, whose ways have no end, or lead to nothing.
func strange() []api.Tree {
	l := broken()
	round := sample()
	with(&round, 5, "z", 2)
	with(&round, 7, "z", 7)
	with(&round, 7, "up", 1)
	l = append(l, round)
	dense := tree.New(0)
	for id := 2; id <= 40; id++ {
		dense.Nodes = append(dense.Nodes, api.Node{Id: id, Kind: api.Dir, Links: 1})
	}
	for i := range dense.Nodes {
		for id := 1; id <= 40; id++ {
			dense.Nodes[i].List = append(dense.Nodes[i].List, api.Entry{Name: strings.Repeat("x", id), Id: id})
		}
	}
	dense.Next = 41
	l = append(l, dense)
	chain := api.Tree{Next: 30001}
	for id := 1; id <= 30000; id++ {
		chain.Nodes = append(chain.Nodes, api.Node{Id: id, Kind: api.Dir, Links: 1, List: entries(api.Entry{Name: "x", Id: id + 1})})
	}
	files := sample()
	for i := range files.Nodes {
		files.Nodes[i].Kind = api.File
	}
	full := sample()
	for i := range full.Nodes {
		full.Nodes[i].Body = body(of(1, math.MaxInt, math.MaxInt), of(-7, -1, math.MinInt), of(5000, 0, 1))
	}
	return append(l, chain, files, full)
}

// P1 of the document, and rule 4 of LANGUAGE.md: no function fails to end, or panics, with trees that are not valid.
func TestTreesThatAreNotValid(t *testing.T) {
	g := rand.New(rand.NewSource(15))
	for i, s := range strange() {
		for range 100 {
			o := api.Op{Kind: 1 + g.Intn(16), Path: pick(g, []string{"", "a", "a/b", "a/b/s", "a/f", "e", "e/z", "l", "w", "k/u", "x", "x/x", "x/xx/xxx", chain(8)}), To: pick(g, []string{"a/z", "z", "l", "e", "x/z"}), N: g.Intn(14), Id: g.Intn(14)}
			for _, a := range []answers{answersOf(s, s, o, o.Path, g.Intn(14)), answersOf(s, sample(), o, o.Path, g.Intn(14))} {
				if a.valid || !a.empty() {
					t.Fatalf("the tree %d, %v: %v", i, o, a.valid)
				}
			}
			tree.Same(sample(), s)
			if len(s.Nodes) > 1000 {
				break
			}
		}
	}
}

// P2 of the document: what is asked at the same time does not matter.
func TestAtOnce(t *testing.T) {
	s := sample()
	wrong := make([]bool, 8)
	var wait sync.WaitGroup
	for i := range wrong {
		x := []api.Op{create("z"), unlink("a/f"), rename("a", "e"), link("l", "0"), put("l", 3), {Kind: api.List}, {Kind: api.SetAcl, Path: "a/f"}, {Kind: api.CloseFile, Who: 5, N: 10}}[i]
		path := []string{"a", "k", "a/b", "z"}[i%4]
		want := answersOf(s, s, x, path, i)
		wait.Go(func() {
			for range 100 {
				wrong[i] = wrong[i] || !answersOf(s, s, x, path, i).equal(want)
			}
		})
	}
	wait.Wait()
	if slices.Contains(wrong, true) {
		t.Error("there were other results")
	}
}

package hold_test

import (
	"math/rand"
	"slices"
	"testing"

	"burgage/api"
	"burgage/hold"
	"burgage/tree"
)

func write(path string, off, id, n int) api.Op {
	return api.Op{Kind: api.Write, Path: path, Off: off, Id: id, N: n}
}

func grow(path string, n int) api.Op     { return api.Op{Kind: api.Append, Path: path, Id: 3, N: n} }
func cut(path string, n int) api.Op      { return api.Op{Kind: api.Cut, Path: path, N: n} }
func link(path, to string) api.Op        { return api.Op{Kind: api.Link, Path: path, To: to} }
func unlink(path string) api.Op          { return api.Op{Kind: api.Unlink, Path: path} }
func rename(path, to string) api.Op      { return api.Op{Kind: api.Rename, Path: path, To: to} }
func open(path string, who int) api.Op   { return api.Op{Kind: api.OpenFile, Path: path, Who: who} }
func closing(node, who int) api.Op       { return api.Op{Kind: api.CloseFile, N: node, Who: who} }
func plain(kind int, path string) api.Op { return api.Op{Kind: kind, Path: path} }
func chown(path string, who int) api.Op  { return api.Op{Kind: api.Chown, Path: path, N: who} }

func allow(path string, who, rights int) api.Op {
	return api.Op{Kind: api.SetAcl, Path: path, Acl: []api.Ace{{Who: who, Allow: true, Rights: rights, Reach: api.Here}}}
}

// trial is an operation on a tree with a hold, and whether it is blocked. None of them has an error.
type trial struct {
	h    []int
	x    api.Op
	want bool
}

// tried tries operations on s, with holds until 11, at 10.
func tried(t *testing.T, s api.Tree, l ...trial) {
	t.Helper()
	for _, e := range l {
		after, reply := tree.Do(s, e.x, 1)
		if reply.E != api.OK {
			t.Fatalf("%v: %v", e.x, reply.E)
		}
		h := order(5, 11, e.h...)
		want := 0
		if e.want {
			want = 5
		}
		if id, is := hold.Blocks(s, orders(h), e.x, 10); is != e.want || id != want {
			t.Errorf("%v with %v: %d, %v", e.x, e.h, id, is)
		}
		if got := hold.Kept(s, after, orders(h), 10); got == e.want {
			t.Errorf("%v with %v: kept is %v", e.x, e.h, got)
		}
		// From its date on, it blocks nothing.
		for _, now := range []int{11, 12} {
			if id, is := hold.Blocks(s, orders(h), e.x, now); is || id != 0 || !hold.Kept(s, after, orders(h), now) {
				t.Errorf("%v with %v at %d: %d, %v", e.x, e.h, now, id, is)
			}
		}
	}
}

// P12.1, P12.3, P12.5 (L4, L5): bytes before, at and behind the last one that is held are written, or cut off.
func TestBlocksBytes(t *testing.T) {
	some, all, more := []int{3, 4}, []int{3, 10}, []int{3, most}
	tried(t, sample(),
		// The first 4 of 10 bytes.
		trial{some, write("a/f", 0, 3, 1), true},
		trial{some, write("a/f", 2, 3, 1), true},
		trial{some, write("a/f", 3, 3, 1), true},
		trial{some, write("a/f", 4, 3, 1), false},
		trial{some, write("a/f", 5, 3, 1), false},
		trial{some, write("a/f", 3, 3, 9), true},
		trial{some, write("a/f", 4, 3, 9), false},
		trial{some, write("a/f", 12, 3, 1), false},
		trial{some, grow("a/f", 1), false},
		trial{some, cut("a/f", 0), true},
		trial{some, cut("a/f", 3), true},
		trial{some, cut("a/f", 4), false},
		trial{some, cut("a/f", 5), false},
		trial{some, cut("a/f", 10), false},
		trial{some, cut("a/f", most), false},
		// All bytes, or as many as there may ever be.
		trial{all, write("a/f", 9, 3, 1), true},
		trial{all, write("a/f", 10, 3, 1), false},
		trial{all, write("a/f", 11, 3, 1), false},
		trial{all, cut("a/f", 9), true},
		trial{all, cut("a/f", 10), false},
		trial{all, cut("a/f", 11), false},
		trial{all, grow("a/f", 9), false},
		trial{more, write("a/f", 9, 3, 1), true},
		trial{more, write("a/f", 10, 3, 1), false},
		trial{more, write("a/f", 12, 3, 1), false},
		trial{more, cut("a/f", 9), true},
		trial{more, cut("a/f", 10), false},
		trial{more, cut("a/f", 12), false},
		trial{more, grow("a/f", 9), false},
		// One more, and one less.
		trial{[]int{3, 11}, write("a/f", 9, 3, 1), true},
		trial{[]int{3, 11}, write("a/f", 10, 3, 1), false},
		trial{[]int{3, 9}, write("a/f", 9, 3, 1), false},
		trial{[]int{3, 9}, write("a/f", 8, 3, 1), true},
		trial{[]int{3, 1}, write("a/f", 0, 3, 1), true},
		trial{[]int{3, 1}, write("a/f", 1, 3, 1), false},
		trial{[]int{3, 1}, cut("a/f", 0), true},
		trial{[]int{3, 1}, cut("a/f", 1), false},
		// No bytes.
		trial{[]int{3, 0}, write("a/f", 0, 3, 1), false},
		trial{[]int{3, 0}, cut("a/f", 0), false},
		trial{[]int{3, 0}, grow("a/f", 1), false},
		// The same bytes as before, where they were, and elsewhere.
		trial{all, write("a/f", 0, 7, 10), false},
		trial{all, write("a/f", 0, 7, 4), false},
		trial{all, write("a/f", 0, 7, 11), false},
		trial{all, write("a/f", 1, 7, 4), true},
		trial{some, write("a/f", 3, 7, 4), true},
		// Holes and erased bytes are held as others are.
		trial{[]int{4, 3}, cut("l", 3), false},
		trial{[]int{4, 3}, cut("l", 2), true},
		trial{[]int{4, 3}, write("l", 2, 3, 1), true},
		trial{[]int{4, 3}, write("l", 3, 3, 1), false},
		trial{[]int{4, 5}, write("a/g", 4, 3, 1), true},
		trial{[]int{6, 3}, cut("a/s", 2), true},
		trial{[]int{6, 3}, write("a/s", 2, 3, 1), true},
		trial{[]int{6, 2}, write("a/s", 2, 3, 1), false},
		// A file without bytes.
		trial{[]int{12, 0}, write("k/t", 0, 3, 1), false},
		trial{[]int{12, most}, write("k/t", 0, 3, 1), false},
		trial{[]int{12, most}, write("k/t", 4, 3, 1), false},
		trial{[]int{12, most}, cut("k/t", 4), false},
		trial{[]int{12, most}, unlink("k/t"), true},
		// Other files.
		trial{[]int{3, 10, 11, 3}, write("k/t", 0, 3, 1), false},
		trial{[]int{3, 10, 11, 3}, cut("l", 0), false},
		trial{[]int{3, 10, 11, 3}, cut("w", 2), true},
		trial{[]int{3, 10, 11, 2}, cut("w", 2), false},
	)
}

// P12.1, P12.3, P12.5 (L4, L5): entries of files that are bound, also with no bytes, are taken out.
func TestBlocksEntries(t *testing.T) {
	tried(t, sample(),
		trial{[]int{3, 10}, unlink("a/f"), true},
		trial{[]int{3, 0}, unlink("a/f"), true},
		trial{[]int{3, 10}, unlink("a/s"), false},
		trial{[]int{4, 5}, unlink("a/g"), false},
		trial{[]int{4, 5}, unlink("l"), false},
		trial{[]int{3, 10, 4, 5}, unlink("l"), false},
		trial{[]int{12, 0}, unlink("k/t"), true},
		// It is still open, but has no entry.
		trial{[]int{11, 3}, unlink("w"), true},
		trial{[]int{11, 0}, unlink("w"), true},
		// Another name is no change, but what was there is gone.
		trial{[]int{3, 10}, rename("a/f", "a/z"), false},
		trial{[]int{3, 10}, rename("a/f", "e/z"), false},
		trial{[]int{3, 10}, rename("a", "z"), false},
		trial{[]int{3, 10}, rename("a", "e"), false},
		trial{[]int{3, 10}, rename("k/t", "a/f"), true},
		trial{[]int{3, 0}, rename("k/t", "a/f"), true},
		trial{[]int{3, 10}, rename("a/f", "k/t"), false},
		trial{[]int{12, 0}, rename("a/f", "k/t"), true},
		trial{[]int{12, 0}, rename("k/t", "a/f"), false},
		trial{[]int{3, 10, 12, 0}, rename("k/t", "a/f"), true},
		trial{[]int{4, 5}, rename("k/t", "l"), false},
		trial{[]int{4, 5}, rename("l", "k/t"), false},
		trial{[]int{4, 5}, rename("l", "a/g"), false},
		trial{[]int{4, 5}, rename("a/g", "l"), false},
		trial{[]int{4, 5}, rename("l", "l2"), false},
		trial{[]int{11, 3}, rename("a/f", "w"), true},
		trial{[]int{3, 10}, link("a/f", "z"), false},
		trial{[]int{4, 5}, link("l", "z"), false},
	)
	once := done(t, sample(), unlink("l"))
	tried(t, once,
		trial{[]int{4, 5}, unlink("a/g"), true},
		trial{[]int{4, 0}, unlink("a/g"), true},
		trial{[]int{4, 5}, rename("a/g", "l"), false},
		trial{[]int{4, 5}, rename("a/f", "a/g"), true},
	)
	tried(t, done(t, once, link("a/g", "e/x")), trial{[]int{4, 5}, unlink("a/g"), false}, trial{[]int{4, 5}, unlink("e/x"), false})
}

// P12.1, P12.3, P12.6 (L4, L5): all other kinds of operations, where all files are held whole.
func TestBlocksOthers(t *testing.T) {
	all := []int{3, 10, 4, 5, 6, 3, 10, 4, 11, 3, 12, most, 13, 9}
	kinds := map[int]bool{}
	for _, x := range []api.Op{
		plain(api.Mkdir, "z"), plain(api.Mkdir, "a/z"), plain(api.Create, "z"), plain(api.Create, "k/z"),
		{Kind: api.Create, Path: "z", Who: 5}, plain(api.Rmdir, "e"), rename("e", "k/e"), rename("k", "e"),
		link("a/s", "e/s"), allow("a/f", 5, api.MayRead), allow("", 5, api.MayWrite), chown("a/f", 9), chown("a", 9), chown("w", 0),
		open("a/f", 0), open("w", 0), closing(11, 6), closing(10, 5), closing(10, 8),
		plain(api.List, ""), plain(api.List, "a"), plain(api.Stat, "a/f"), plain(api.Stat, "a"), {Kind: api.Read, Path: "a/f", N: 5}, {Kind: api.Read, Id: 10, Who: 5, N: 5},
		grow("k/t", 5), grow("w", 1), grow("l", 1), cut("a/f", 10), cut("a/f", 11), write("k/u", 9, 3, 3), unlink("l"),
	} {
		tried(t, sample(), trial{all, x, false})
		kinds[x.Kind] = true
	}
	if len(kinds) != api.Read {
		t.Errorf("the kinds are %v", kinds)
	}
}

// P12.1, P12.3 (L4, L5): numbers that no node has, those of directories, and those of files without entries.
func TestBlocksNothing(t *testing.T) {
	tried(t, sample(),
		trial{[]int{5, 9, 7, 9, 99, 9}, cut("a/f", 0), false},
		trial{[]int{5, 9, 7, 9, 99, 9}, unlink("a/f"), false},
		trial{[]int{1, 9, 2, 9}, unlink("a/f"), false},
		trial{[]int{8, 9}, plain(api.Rmdir, "e"), false},
		trial{[]int{8, 0}, rename("k", "e"), false},
		trial{[]int{2, 9}, cut("a/f", 0), false},
		trial{nil, unlink("a/f"), false},
		trial{nil, cut("a/f", 0), false},
		// The number of a file that is made then.
		trial{[]int{30, 9}, plain(api.Create, "z"), false},
		trial{[]int{30, 9}, plain(api.Mkdir, "z"), false},
		trial{[]int{10, 4}, closing(10, 5), false},
	)
	last := done(t, sample(), closing(10, 5), unlink("w"))
	tried(t, last, trial{[]int{10, 4, 11, 3}, closing(10, 8), false}, trial{[]int{10, 0, 11, 0}, closing(11, 6), false})
	// What comes to be held then is held.
	tried(t, done(t, sample(), plain(api.Create, "z"), grow("z", 4)),
		trial{[]int{30, 9}, cut("z", 3), true},
		trial{[]int{30, 9}, unlink("z"), true},
		trial{[]int{30, 9}, grow("z", 3), false},
	)
	// A new file of the same name has another number.
	anew := done(t, sample(), unlink("a/f"), plain(api.Create, "a/f"), grow("a/f", 4))
	tried(t, anew, trial{[]int{3, 10}, unlink("a/f"), false}, trial{[]int{3, 10}, cut("a/f", 0), false})
}

// P12.1, P12.3 (L4): operations that have errors are not blocked.
func TestBlocksErrors(t *testing.T) {
	l := orders(order(5, 11, 3, 10, 4, 5, 6, 3, 10, 4, 11, 3, 12, 0, 13, 9))
	ops := []api.Op{
		plain(api.Unlink, "a"), plain(api.Unlink, "z"), plain(api.Unlink, "a/f/z"), plain(api.Unlink, "a//f"), plain(api.Unlink, ""), plain(api.Rmdir, "a/f"), plain(api.Rmdir, "a"),
		write("a/f", 0, 0, 1), write("a/f", 0, 4096, 1), write("a/f", -1, 3, 1), write("a/f", 0, 3, 0), write("a/f", 0, 3, most+1), write("a", 0, 3, 1), cut("a/f", -1), cut("a/f", most+1), cut("a", 0),
		grow("a/f", most-9), grow("a/f", 0), rename("k/t", "a"), rename("a", "a/f"), rename("k/t", "z/a"), rename("z", "a/f"), rename("a", "a/a"), link("k/t", "a/f"),
		plain(api.Mkdir, "a/f"), plain(api.Create, "a/f"), closing(3, 0), open("a", 0), open("z", 0), chown("a/f", 1000), {Kind: api.SetAcl, Path: "a/f", Acl: []api.Ace{{}}},
		plain(api.List, "a/f"), plain(api.Stat, "z"), plain(api.Read, "a"), plain(0, "a/f"), plain(17, "a/f"),
	}
	for _, n := range odd {
		ops = append(ops, plain(n, "a/f"), api.Op{Kind: api.Unlink, Path: "a/f", Who: n}, write("a/f", n, 3, 1), closing(n, 0))
		if n < 0 || n > most {
			ops = append(ops, cut("a/f", n), write("a/f", 0, n, 1), write("a/f", 0, 3, n))
		}
	}
	// Nobody may do anything with these files but 0.
	for _, x := range []api.Op{unlink("a/f"), cut("a/f", 0), write("a/f", 0, 3, 1), rename("k/t", "a/f"), unlink("k/t")} {
		x.Who = 5
		ops = append(ops, x)
		if _, is := hold.Blocks(sample(), l, api.Op{Kind: x.Kind, Path: x.Path, To: x.To, Id: x.Id, N: x.N}, 10); !is {
			t.Errorf("%v of 0 is not blocked", x)
		}
	}
	for _, x := range ops {
		if _, reply := tree.Do(sample(), x, 1); reply.E == api.OK {
			t.Fatalf("%v has no error", x)
		}
		if id, is := hold.Blocks(sample(), l, x, 10); is || id != 0 {
			t.Errorf("%v: %d, %v", x, id, is)
		}
	}
}

// P12.1, P12.5 (L4): of several holds, the first one that is live and in the way is told.
func TestBlocksFirst(t *testing.T) {
	for _, e := range []struct {
		l    []api.Hold
		want int
	}{
		{nil, 0},
		{orders(order(5, 11, 3, 10)), 5},
		{orders(order(5, 10, 3, 10)), 0},
		{orders(order(5, 9, 3, 10)), 0},
		{orders(order(5, 0, 3, 10)), 0},
		{orders(order(5, 1000000000, 3, 10)), 5},
		{orders(order(5, 10, 3, 10), order(8, 11, 3, 10)), 8},
		{orders(order(5, 11, 3, 10), order(8, 11, 3, 10)), 5},
		{orders(order(5, 11, 3, 10), order(8, 99, 3, 10)), 5},
		{orders(order(5, 11, 3, 5), order(8, 11, 3, 10)), 8},
		{orders(order(5, 11, 4, 5), order(8, 11, 3, 10)), 8},
		{orders(order(5, 11, 4, 5, 6, 3), order(8, 11), order(9, 9, 3, 10), order(10, 12, 2, 9, 3, 7, 12, 9), order(11, 12, 3, 9)), 10},
		{orders(order(5, 11, 4, 5), order(8, 11, 3, 6)), 0},
		{orders(order(5, 3, 3, 10), order(8, 4, 3, 10), order(9, 5, 3, 10)), 0},
		{orders(order(1, 3, 3, 10), order(1<<40, 40, 3, 10)), 1 << 40},
	} {
		id, is := hold.Blocks(sample(), e.l, cut("a/f", 6), 10)
		if id != e.want || is != (e.want > 0) {
			t.Errorf("%v: %d, %v", e.l, id, is)
		}
	}
	var l []api.Hold
	for i := range 16 {
		l = append(l, order(i+1, 11, 3, i))
	}
	for n := range 16 {
		// The first n+1 bytes and more are held by the hold n+2 and by those after it.
		id, is := hold.Blocks(sample(), l, cut("a/f", n), 10)
		if want := n + 2; n < 10 && (id != want || !is) || n >= 10 && (id != 0 || is) {
			t.Errorf("cut to %d: %d, %v", n, id, is)
		}
	}
}

// P12.3 to P12.5 (L4, L5): along ways of operations, what is blocked is exactly what does not keep all bytes that are held.
func TestBlocksSome(t *testing.T) {
	counts := map[bool]int{}
	walks(t, 21, func(g *rand.Rand, before, after api.Tree, x api.Op, e api.Errno) {
		for i := range 32 {
			l, now := someHolds(g, before, 100), 98+i%8
			id, is := hold.Blocks(before, l, x, now)
			wantId, want := firstLost(before, after, l, now)
			if id != wantId || is != want {
				t.Fatalf("%v, %v, %v at %d: %d, %v, not %d", before, l, x, now, id, is, wantId)
			}
			if got := hold.Kept(before, after, l, now); got == is {
				t.Fatalf("%v, %v, %v at %d: kept is %v", before, l, x, now, got)
			}
			if is && (e != api.OK || tree.Reads(x.Kind) || now >= 103) {
				t.Fatalf("%v, %v at %d: %d, and %v", l, x, now, id, e)
			}
			counts[is]++
		}
	})
	if counts[true] < 500 || counts[false] < 5000 {
		t.Errorf("blocked or not: %v", counts)
	}
}

// lessened returns some of the holds, with earlier dates, and with less that is bound.
func lessened(g *rand.Rand, l []api.Hold) []api.Hold {
	less := copyHolds(l)
	for i := range less {
		switch h := &less[i]; {
		case g.Intn(3) == 0:
			h.Until = g.Intn(h.Until + 1)
		case g.Intn(3) == 0 && len(h.Bind) > 0:
			h.Bind = h.Bind[:g.Intn(len(h.Bind))]
		case g.Intn(3) == 0:
			for j := range h.Bind {
				h.Bind[j].N = g.Intn(h.Bind[j].N + 1)
			}
		}
	}
	return slices.DeleteFunc(less, func(api.Hold) bool { return g.Intn(6) == 0 })
}

// P12.6 (L4): with more holds, with later dates, and with more that is bound, what was blocked stays so.
func TestMoreBlocksMore(t *testing.T) {
	counts := map[[2]bool]int{}
	walks(t, 22, func(g *rand.Rand, s, _ api.Tree, x api.Op, _ api.Errno) {
		for range 10 {
			l := someHolds(g, s, 100)
			less := lessened(g, l)
			was, blocked := hold.Blocks(s, less, x, 100)
			id, is := hold.Blocks(s, l, x, 100)
			if blocked && (!is || id > was) {
				t.Fatalf("%v, %v, but not %v: %d, %v, and %d, %v", x, less, l, was, blocked, id, is)
			}
			counts[[2]bool{blocked, is}]++
		}
	})
	for _, which := range [][2]bool{{true, true}, {false, true}, {false, false}} {
		if counts[which] < 100 {
			t.Errorf("blocked with less, and with more: %v", counts)
		}
	}
}

// about returns the files that an operation is about: those at its paths, and that with its number.
func about(t api.Tree, x api.Op) []int {
	ids := []int{x.N, x.Id}
	for _, p := range []string{x.Path, x.To} {
		if id, err := tree.Find(t, p); err == api.OK {
			ids = append(ids, id)
		}
	}
	return ids
}

// P12.6 (L4): operations that read are never blocked, and those about other files are not.
func TestOthersAreNotBlocked(t *testing.T) {
	reading, others := 0, 0
	walks(t, 23, func(g *rand.Rand, s, _ api.Tree, x api.Op, e api.Errno) {
		everything := orders(api.Hold{Id: 1, Until: 101, Bind: bound(s, "")})
		if tree.Reads(x.Kind) {
			if id, is := hold.Blocks(s, everything, x, 100); is || id != 0 {
				t.Fatalf("%v: %d", x, id)
			}
			reading++
		}
		ids := about(s, x)
		rest := copyHolds(everything)
		rest[0].Bind = slices.DeleteFunc(rest[0].Bind, func(b api.Bind) bool { return slices.Contains(ids, b.Node) })
		if id, is := hold.Blocks(s, rest, x, 100); is || id != 0 {
			t.Fatalf("%v about %v: %d because of %v", x, ids, id, rest)
		}
		if e == api.OK && len(rest[0].Bind) > 0 {
			others++
		}
	})
	if reading < 300 || others < 500 {
		t.Errorf("%d read, and %d were about others", reading, others)
	}
}

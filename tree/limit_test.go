package tree_test

import (
	"strings"
	"testing"

	"burgage/api"
	"burgage/tree"
)

// refused looks whether an operation has this error, and changes nothing.
func refused(t *testing.T, s api.Tree, x api.Op, err api.Errno) {
	t.Helper()
	got, reply := tree.Do(s, x, now)
	if !equalReplies(reply, api.Reply{E: err}) || !equal(got, s) {
		t.Errorf("%v: %v, not %v", x, reply, err)
	}
}

// P9.1, P9.2 (I3): 256 nodes, and one more.
func TestManyNodes(t *testing.T) {
	for _, make := range []func(string) api.Op{mkdir, create} {
		s := done(t, wide(255), make("z"))
		if len(s.Nodes) != 256 || !tree.Valid(s) {
			t.Errorf("%d nodes", len(s.Nodes))
		}
		refused(t, s, make("y"), api.ErrBig)
		refused(t, s, make("a"), api.ErrExists)
		refused(t, s, make("a/b"), api.ErrDir)
		refused(t, s, by(1, make("y")), api.ErrDenied)
		refused(t, done(t, s, api.Op{Kind: api.SetAcl, Acl: acls(allow(1, x))}), by(1, make("y")), api.ErrDenied)
		// Entries are no nodes, and a node that goes makes room; a file that stays open does not.
		s = done(t, s, link("a", "b"), unlink("a"))
		refused(t, s, make("y"), api.ErrBig)
		s = done(t, s, api.Op{Kind: api.OpenFile, Path: "b"}, unlink("b"))
		refused(t, s, make("y"), api.ErrBig)
		s = done(t, s, api.Op{Kind: api.CloseFile, N: 2}, make("y"))
		refused(t, s, make("x"), api.ErrBig)
	}
}

// P9.1, P9.2 (I3): paths of 8 names, and one more, for everything that is made.
func TestLongPaths(t *testing.T) {
	s := deep(t, 7)
	for _, x := range []api.Op{mkdir(chain(8)), create(chain(8)), link("f", chain(8)), rename("f", chain(8)), rename("d", chain(8))} {
		s := done(t, s, create("f"), mkdir("d"), x)
		if !tree.Valid(s) || at(s, chain(8)).Kind == 0 {
			t.Errorf("%v: not there", x)
		}
	}
	s = done(t, deep(t, 8), create("f"), mkdir("d"))
	for _, x := range []api.Op{mkdir(chain(9)), create(chain(9)), link("f", chain(9)), rename("f", chain(9)), rename("d", chain(9)), rename(chain(9), "z"), unlink(chain(9)), rmdir(chain(9)), stat(chain(9)), link(chain(9), "z")} {
		refused(t, s, x, api.ErrPath)
	}
	long := strings.Repeat("n", 16)
	for _, make := range []func(string) api.Op{mkdir, create} {
		done(t, s, make(long))
		refused(t, s, make(long+"n"), api.ErrPath)
	}
}

// tower puts directories y, y/y and so on into a tree, at the end of which there is a node of this kind; all of them have n names.
func tower(t *testing.T, s api.Tree, n, kind int) api.Tree {
	path := ""
	for i := range n {
		path = strings.TrimPrefix(path+"/y", "/")
		if i == n-1 && kind == api.File {
			s = done(t, s, create(path))
		} else {
			s = done(t, s, mkdir(path))
		}
	}
	return s
}

// P9.1, P9.2 (I3): a rename of a directory with others below it, so that the lowest ones have 8 names, or one more; also over an empty directory.
func TestRenameTooDeep(t *testing.T) {
	for _, kind := range []int{api.Dir, api.File} {
		for below := 1; below <= 5; below++ {
			for n := 1; n <= 7; n++ {
				s := tower(t, deep(t, n), below, kind)
				// What is beside the lowest one does not matter.
				if below > 1 {
					s = done(t, s, create("y/a"), create("y/z"))
				}
				to := chain(n) + "/t"
				over := s
				if kind == api.Dir || below > 1 {
					over = done(t, s, mkdir(to))
				}
				for _, s := range []api.Tree{s, over} {
					if n+below > 8 {
						refused(t, s, rename("y", to), api.ErrBig)
						continue
					}
					s = done(t, s, rename("y", to))
					if !tree.Valid(s) || at(s, to+strings.Repeat("/y", below-1)).Kind != kind {
						t.Errorf("%d below %d: not there", below, n)
					}
				}
			}
		}
	}
}

// P9.1 (I3): other errors of Rename come before ErrBig.
func TestRenameTooDeepAndMore(t *testing.T) {
	s := tower(t, deep(t, 6), 4, api.Dir)
	s = done(t, s, create(chain(6)+"/f"), mkdir(chain(6)+"/d"), create(chain(6)+"/d/f"))
	refused(t, s, rename("y", chain(6)+"/f"), api.ErrDir)
	refused(t, s, rename("y", chain(6)+"/d"), api.ErrEmpty)
	refused(t, s, rename("y", chain(6)+"/e"), api.ErrBig)
	refused(t, s, by(1, rename("y", chain(6)+"/e")), api.ErrDenied)
	refused(t, s, rename("x", chain(6)+"/e"), api.ErrInside)
}

// P9.1, P9.2 (I3): 32 open files and one more, and opening one again that is open.
func TestManyOpens(t *testing.T) {
	open := func(who int, path string) api.Op { return api.Op{Kind: api.OpenFile, Who: who, Path: path} }
	s := done(t, tree.New(0), create("a"), create("b"), api.Op{Kind: api.SetAcl, Acl: acls(allow(api.Everyone, x))}, api.Op{Kind: api.SetAcl, Path: "a", Acl: acls(allow(api.Everyone, r))})
	for who := range 31 {
		s = done(t, s, open(who, "a"))
	}
	s = done(t, s, open(0, "b"))
	if len(s.Opens) != 32 || !tree.Valid(s) {
		t.Fatalf("%v", s.Opens)
	}
	refused(t, s, open(31, "a"), api.ErrBig)
	refused(t, s, open(1, "b"), api.ErrDenied)
	refused(t, s, open(40, ""), api.ErrFile)
	for who := range 31 {
		got, reply := tree.Do(s, open(who, "a"), now)
		if !equalReplies(reply, api.Reply{N: 2}) || !equal(got, s) {
			t.Errorf("again by %d: %v", who, reply)
		}
	}
	refused(t, s, api.Op{Kind: api.CloseFile, Who: 31, N: 2}, api.ErrNone)
	s = done(t, s, api.Op{Kind: api.CloseFile, Who: 30, N: 2}, open(31, "a"))
	refused(t, s, open(30, "a"), api.ErrBig)
}

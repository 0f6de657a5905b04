package tree

import (
	"burgage/acl"
	"burgage/api"
	"burgage/name"
)

// refuse ends what errorOf runs with the error e, if bad is true.
func refuse(bad bool, e api.Errno) {
	if bad {
		panic(e)
	}
}

// errorOf runs f, and returns the error with which it was ended, or OK.
func errorOf(f func()) (e api.Errno) {
	defer func() {
		switch p := recover().(type) {
		case nil:
		case api.Errno:
			e = p
		default:
			// No valid tree leads here.
			e = api.ErrTree
		}
	}()
	f()
	return api.OK
}

// node returns the node with this number, which is there in a valid tree.
func node(t api.Tree, id int) *api.Node {
	n := find(t, id)
	refuse(n == nil, api.ErrTree)
	return n
}

// may reports whether who has a right at n.
func may(n *api.Node, who, right int) bool {
	return acl.Allows(n.Acl, who, n.Owner, right)
}

// enter looks whether who is at a directory that who may enter.
func enter(n *api.Node, who int) {
	refuse(n.Kind != api.Dir, api.ErrDir)
	refuse(!may(n, who, api.MayEnter), api.ErrDenied)
}

// way returns the node to which the way of who along a path leads.
func way(t api.Tree, who int, path string) *api.Node {
	names, e := name.Parts(path)
	refuse(e != api.OK, e)
	n := node(t, root)
	for _, x := range names {
		enter(n, who)
		i, is := entry(n.List, x)
		refuse(!is, api.ErrNone)
		n = node(t, n.List[i].Id)
	}
	return n
}

// place is a name in a directory. It keeps numbers, since nodes move when others are removed.
type place struct {
	dir  int
	name string
	id   int // where the entry leads, or none, if it is not there
}

// placeOf returns the place of a path, which is found by who.
func placeOf(t api.Tree, who int, path string) place {
	dir, last, e := name.Split(path)
	// The root is a path, but has no place.
	refuse(e != api.OK, api.ErrPath)
	n := way(t, who, dir)
	enter(n, who)
	p := place{dir: n.Id, name: last, id: none}
	if i, is := entry(n.List, last); is {
		p.id = n.List[i].Id
	}
	return p
}

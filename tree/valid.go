package tree

import (
	"slices"

	"burgage/acl"
	"burgage/api"
	"burgage/extent"
	"burgage/name"
)

// Valid reports whether a tree is right.
func Valid(t api.Tree) bool {
	return validNumbers(t) && validNodes(t) && validLinks(t) && validPaths(t) && validOpens(t)
}

// validNumbers reports whether the numbers of nodes increase, and are in their range. What else is looked at finds nodes by them.
func validNumbers(t api.Tree) bool {
	if len(t.Nodes) > api.MaxNodes {
		return false
	}
	last := 0
	for _, n := range t.Nodes {
		if n.Id <= last {
			return false
		}
		last = n.Id
	}
	return last < t.Next
}

// validNodes reports whether the fields of each node are right by themselves, and the root is there.
func validNodes(t api.Tree) bool {
	for _, n := range t.Nodes {
		if !isPerson(n.Owner) || !acl.Valid(n.Acl) || n.Ver < 0 || !validDir(t, n) && !validFile(n) {
			return false
		}
	}
	n := find(t, root)
	return n != nil && n.Kind == api.Dir
}

func validFile(n api.Node) bool {
	return n.Kind == api.File && len(n.List) == 0 && extent.Valid(n.Body)
}

func validDir(t api.Tree, n api.Node) bool {
	if n.Kind != api.Dir || len(n.Body) > 0 || n.Links != 1 {
		return false
	}
	for i, e := range n.List {
		if !name.Valid(e.Name) || find(t, e.Id) == nil || i > 0 && n.List[i-1].Name >= e.Name {
			return false
		}
	}
	return true
}

// validLinks reports whether nodes have as many entries as they should.
func validLinks(t api.Tree) bool {
	// The root has a link, as other directories have, but no entry.
	entries := map[int]int{root: 1}
	for _, n := range t.Nodes {
		for _, e := range n.List {
			entries[e.Id]++
		}
	}
	return !slices.ContainsFunc(t.Nodes, func(n api.Node) bool { return entries[n.Id] != n.Links })
}

// validPaths reports whether all nodes that should be reached from the root are, by paths that are not too long.
func validPaths(t api.Tree) bool {
	reached := map[int]bool{}
	for names, id := range walk(t, root) {
		if len(names) > api.MaxDepth {
			return false
		}
		reached[id] = true
	}
	return !slices.ContainsFunc(t.Nodes, func(n api.Node) bool { return n.Links > 0 && !reached[n.Id] })
}

// validOpens reports whether open files are right, and files without entries are open.
func validOpens(t api.Tree) bool {
	if len(t.Opens) > api.MaxOpens {
		return false
	}
	for i, o := range t.Opens {
		n := find(t, o.Node)
		if n == nil || n.Kind != api.File || !isPerson(o.Who) || i > 0 && compareOpens(t.Opens[i-1], o) >= 0 {
			return false
		}
	}
	return !slices.ContainsFunc(t.Nodes, func(n api.Node) bool { return n.Links == 0 && !isOpen(t, n.Id) })
}

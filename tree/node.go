package tree

import (
	"cmp"
	"iter"
	"slices"
	"strings"

	"burgage/api"
)

// find returns the node with this number, or nil. It is one of Nodes itself, not a copy.
func find(t api.Tree, id int) *api.Node {
	i, is := slices.BinarySearchFunc(t.Nodes, id, func(n api.Node, id int) int { return cmp.Compare(n.Id, id) })
	if !is {
		return nil
	}
	return &t.Nodes[i]
}

// entry returns the index of the entry of a name, or where it belongs, and whether it is there.
func entry(l []api.Entry, name string) (int, bool) {
	return slices.BinarySearchFunc(l, name, func(e api.Entry, name string) int { return cmp.Compare(e.Name, name) })
}

// insertEntry puts in an entry with a name that is not there.
func insertEntry(dir *api.Node, name string, id int) {
	i, _ := entry(dir.List, name)
	dir.List = slices.Insert(dir.List, i, api.Entry{Name: name, Id: id})
}

// removeEntry removes the entry of a name.
func removeEntry(dir *api.Node, name string) {
	dir.List = slices.DeleteFunc(dir.List, func(e api.Entry) bool { return e.Name == name })
}

// removeLost removes the nodes without links: directories, and files that nobody has open.
func removeLost(t *api.Tree) {
	t.Nodes = slices.DeleteFunc(t.Nodes, func(n api.Node) bool { return n.Links == 0 && !isOpen(*t, n.Id) })
}

// compareOpens tells the order of open files.
func compareOpens(a, b api.Open) int {
	return cmp.Or(cmp.Compare(a.Node, b.Node), cmp.Compare(a.Who, b.Who))
}

// isOpen reports whether anybody has the file open.
func isOpen(t api.Tree, id int) bool {
	return slices.ContainsFunc(t.Opens, func(o api.Open) bool { return o.Node == id })
}

// clone returns a copy of t that shares no memory with it.
func clone(t api.Tree) api.Tree {
	t.Nodes, t.Opens = slices.Clone(t.Nodes), slices.Clone(t.Opens)
	for i, n := range t.Nodes {
		t.Nodes[i] = cloneNode(n)
	}
	return t
}

// cloneNode returns a copy of n that shares no memory with it.
func cloneNode(n api.Node) api.Node {
	n.Acl, n.List, n.Body = slices.Clone(n.Acl), slices.Clone(n.List), slices.Clone(n.Body)
	return n
}

// walk yields the node id and, in preorder, all nodes below it, with the names that lead there from the node id; a file with several entries comes once for each of them. The names are good until the next step only.
func walk(t api.Tree, id int) iter.Seq2[[]string, int] {
	return func(yield func([]string, int) bool) {
		seen := map[int]bool{}
		var visit func(names []string, id int) bool
		visit = func(names []string, id int) bool {
			n := find(t, id)
			if n == nil {
				return true
			}
			if !yield(names, id) {
				return false
			}
			// In a tree that is not valid, a directory may be below itself.
			if seen[id] {
				return true
			}
			seen[id] = true
			for _, e := range n.List {
				if !visit(append(names, e.Name), e.Id) {
					return false
				}
			}
			return true
		}
		visit(nil, id)
	}
}

// entriesOf returns how many entries each node at and below the node id has there, where that itself counts as one of its own.
func entriesOf(t api.Tree, id int) map[int]int {
	entries := map[int]int{}
	for _, at := range walk(t, id) {
		entries[at]++
	}
	return entries
}

// height returns how many names lead from the node id to the lowest ones below it.
func height(t api.Tree, id int) int {
	most := 0
	for names := range walk(t, id) {
		most = max(most, len(names))
	}
	return most
}

// pathOf returns the path of these names.
func pathOf(names []string) string { return strings.Join(names, "/") }

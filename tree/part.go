package tree

import "burgage/api"

// Sub returns what is at and below a path as a tree.
func Sub(t api.Tree, path string) (api.Tree, api.Errno) {
	var nodes []api.Node
	e := errorOf(func() {
		dir := way(t, superuser, path)
		refuse(dir.Kind != api.Dir, api.ErrDir)
		for id, entries := range entriesOf(t, dir.Id) {
			refuse(entries != node(t, id).Links, api.ErrInside)
		}
		nodes = numbered(t, dir.Id, root)
	})
	if e != api.OK {
		return api.Tree{}, e
	}
	return api.Tree{Nodes: nodes, Next: root + len(nodes)}, api.OK
}

// numbered returns copies of the node id and all nodes below it, in preorder, with the numbers from first on.
func numbered(t api.Tree, id, first int) []api.Node {
	var nodes []api.Node
	numbers := map[int]int{}
	for _, at := range walk(t, id) {
		if _, is := numbers[at]; !is {
			numbers[at] = first + len(nodes)
			nodes = append(nodes, cloneNode(*find(t, at)))
		}
	}
	for i := range nodes {
		nodes[i].Id = first + i
		for j, e := range nodes[i].List {
			nodes[i].List[j].Id = numbers[e.Id]
		}
	}
	return nodes
}

// Without returns a tree without what is at and below a path.
func Without(t api.Tree, path string) (api.Tree, api.Errno) {
	var out api.Tree
	e := errorOf(func() {
		p := placeOf(t, superuser, path)
		refuse(p.id == none, api.ErrNone)
		out = clone(t)
		removeEntry(node(out, p.dir), p.name)
		lost := entriesOf(t, p.id)
		for i, n := range out.Nodes {
			out.Nodes[i].Links = n.Links - lost[n.Id]
		}
		removeLost(&out)
	})
	if e != api.OK {
		return api.Tree{}, e
	}
	return out, api.OK
}

// Graft puts a tree to a path where nothing is.
func Graft(t api.Tree, path string, s api.Tree) (api.Tree, api.Errno) {
	var out api.Tree
	e := errorOf(func() {
		p := placeOf(t, superuser, path)
		refuse(p.id != none, api.ErrExists)
		refuse(!Valid(s), api.ErrTree)
		nodes := numbered(s, root, t.Next)
		refuse(len(t.Nodes)+len(nodes) > api.MaxNodes, api.ErrBig)
		refuse(depth(path)+height(s, root) > api.MaxDepth, api.ErrBig)
		out = clone(t)
		insertEntry(node(out, p.dir), p.name, t.Next)
		out.Nodes = append(out.Nodes, nodes...)
		out.Next += len(nodes)
	})
	if e != api.OK {
		return api.Tree{}, e
	}
	return out, api.OK
}

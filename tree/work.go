package tree

import (
	"slices"

	"burgage/acl"
	"burgage/api"
	"burgage/extent"
	"burgage/name"
)

// work is an operation that is executed on a tree of its own. Its methods look for errors before they change anything.
type work struct {
	tree  api.Tree
	op    api.Op
	ver   int
	reply api.Reply
}

// methods returns what is done for each kind of operations.
func methods() map[int]func(*work) {
	return map[int]func(*work){
		api.Mkdir:     (*work).mkdir,
		api.Create:    (*work).create,
		api.Write:     (*work).write,
		api.Append:    (*work).add,
		api.Cut:       (*work).cut,
		api.Link:      (*work).link,
		api.Unlink:    (*work).unlink,
		api.Rmdir:     (*work).rmdir,
		api.Rename:    (*work).rename,
		api.SetAcl:    (*work).setAcl,
		api.Chown:     (*work).chown,
		api.OpenFile:  (*work).openFile,
		api.CloseFile: (*work).closeFile,
		api.List:      (*work).list,
		api.Stat:      (*work).stat,
		api.Read:      (*work).read,
	}
}

// run executes the operation.
func (w *work) run() {
	refuse(!isPerson(w.op.Who), api.ErrArg)
	do, is := methods()[w.op.Kind]
	refuse(!is, api.ErrOp)
	do(w)
}

// way returns the node to which the way along a path leads.
func (w *work) way(path string) *api.Node { return way(w.tree, w.op.Who, path) }

// place returns the place of a path.
func (w *work) place(path string) place { return placeOf(w.tree, w.op.Who, path) }

// node returns a node.
func (w *work) node(id int) *api.Node { return node(w.tree, id) }

// demand looks whether Who has a right at n.
func (w *work) demand(n *api.Node, right int) {
	refuse(!may(n, w.op.Who, right), api.ErrDenied)
}

// file returns the file at Path, at which Who must have a right.
func (w *work) file(right int) *api.Node {
	n := w.way(w.op.Path)
	refuse(n.Kind == api.Dir, api.ErrFile)
	w.demand(n, right)
	return n
}

func (w *work) mkdir()  { w.make(api.Dir) }
func (w *work) create() { w.make(api.File) }

// make makes a node at Path.
func (w *work) make(kind int) {
	p := w.place(w.op.Path)
	refuse(p.id != none, api.ErrExists)
	dir := w.node(p.dir)
	w.demand(dir, api.MayWrite)
	refuse(len(w.tree.Nodes) >= api.MaxNodes, api.ErrBig)
	id := w.tree.Next
	made := api.Node{Id: id, Kind: kind, Owner: w.op.Who, Acl: acl.Child(dir.Acl, kind == api.Dir), Links: 1, Ver: w.ver}
	w.putIn(p, id)
	w.tree.Nodes = append(w.tree.Nodes, made)
	w.tree.Next++
	w.reply.N = id
}

// putIn puts in the entry of a place, which is not there.
func (w *work) putIn(p place, id int) {
	dir := w.node(p.dir)
	insertEntry(dir, p.name, id)
	dir.Ver = w.ver
}

// takeOut removes the entry of a place, which is there.
func (w *work) takeOut(p place) {
	dir := w.node(p.dir)
	removeEntry(dir, p.name)
	dir.Ver = w.ver
}

// lose counts that an entry of the node was removed.
func (w *work) lose(id int) {
	w.node(id).Links--
	removeLost(&w.tree)
}

func (w *work) write() {
	n := w.file(api.MayWrite)
	b, e := extent.Put(n.Body, w.op.Off, w.op.Id, w.op.N)
	w.setBody(n, b, e)
}

func (w *work) add() {
	n := w.file(api.MayWrite)
	b, e := extent.Put(n.Body, extent.Size(n.Body), w.op.Id, w.op.N)
	w.setBody(n, b, e)
}

func (w *work) cut() {
	n := w.file(api.MayWrite)
	b, e := extent.Cut(n.Body, w.op.N)
	w.setBody(n, b, e)
}

// setBody gives a file this body, if there is no error.
func (w *work) setBody(n *api.Node, b []api.Piece, e api.Errno) {
	refuse(e != api.OK, e)
	n.Body, n.Ver = b, w.ver
	w.reply.N = extent.Size(b)
}

func (w *work) link() {
	n := w.way(w.op.Path)
	refuse(n.Kind == api.Dir, api.ErrFile)
	to := w.place(w.op.To)
	refuse(to.id != none, api.ErrExists)
	w.demand(w.node(to.dir), api.MayWrite)
	w.putIn(to, n.Id)
	n.Links++
	w.reply.N = n.Id
}

func (w *work) unlink() {
	p := w.place(w.op.Path)
	refuse(p.id == none, api.ErrNone)
	refuse(w.node(p.id).Kind == api.Dir, api.ErrFile)
	w.demand(w.node(p.dir), api.MayWrite)
	w.takeOut(p)
	w.lose(p.id)
}

func (w *work) rmdir() {
	p := w.place(w.op.Path)
	refuse(p.id == none, api.ErrNone)
	n := w.node(p.id)
	refuse(n.Kind != api.Dir, api.ErrDir)
	w.demand(w.node(p.dir), api.MayWrite)
	refuse(len(n.List) > 0, api.ErrEmpty)
	w.takeOut(p)
	w.lose(p.id)
}

func (w *work) rename() {
	from := w.place(w.op.Path)
	refuse(from.id == none, api.ErrNone)
	to := w.place(w.op.To)
	w.demand(w.node(from.dir), api.MayWrite)
	w.demand(w.node(to.dir), api.MayWrite)
	refuse(name.Below(w.op.To, w.op.Path), api.ErrInside)
	if to.id != none {
		canReplace(*w.node(from.id), *w.node(to.id))
	}
	refuse(depth(w.op.To)+height(w.tree, from.id) > api.MaxDepth, api.ErrBig)
	w.takeOut(from)
	if from.id == to.id {
		w.lose(from.id)
		return
	}
	if to.id != none {
		w.takeOut(to)
		w.lose(to.id)
	}
	w.putIn(to, from.id)
}

// canReplace looks whether n may come in the place of old.
func canReplace(n, old api.Node) {
	isDir, wasDir := n.Kind == api.Dir, old.Kind == api.Dir
	refuse(isDir && !wasDir, api.ErrDir)
	refuse(!isDir && wasDir, api.ErrFile)
	refuse(len(old.List) > 0, api.ErrEmpty)
}

// depth returns the number of names of a path.
func depth(path string) int {
	names, _ := name.Parts(path)
	return len(names)
}

func (w *work) setAcl() {
	n := w.way(w.op.Path)
	w.demand(n, api.MayRule)
	l := slices.Clone(w.op.Acl)
	refuse(slices.ContainsFunc(l, func(e api.Ace) bool { return e.Given }) || !acl.Valid(l), api.ErrAcl)
	for _, e := range n.Acl {
		if e.Given {
			l = append(l, e)
		}
	}
	refuse(len(l) > api.MaxAces, api.ErrBig)
	n.Acl, n.Ver = l, w.ver
}

func (w *work) chown() {
	n := w.way(w.op.Path)
	w.demand(n, api.MayRule)
	refuse(!isPerson(w.op.N), api.ErrArg)
	n.Owner, n.Ver = w.op.N, w.ver
}

func (w *work) openFile() {
	n := w.file(api.MayRead)
	w.reply.N = n.Id
	i, is := w.opened(n.Id)
	if is {
		return
	}
	refuse(len(w.tree.Opens) >= api.MaxOpens, api.ErrBig)
	w.tree.Opens = slices.Insert(w.tree.Opens, i, api.Open{Node: n.Id, Who: w.op.Who})
}

func (w *work) closeFile() {
	i, is := w.opened(w.op.N)
	refuse(!is, api.ErrNone)
	w.tree.Opens = slices.Delete(w.tree.Opens, i, i+1)
	removeLost(&w.tree)
}

// opened returns the index of the node, open by Who, among Opens, or where it belongs, and whether it is there.
func (w *work) opened(id int) (int, bool) {
	return slices.BinarySearchFunc(w.tree.Opens, api.Open{Node: id, Who: w.op.Who}, compareOpens)
}

func (w *work) list() {
	n := w.way(w.op.Path)
	refuse(n.Kind != api.Dir, api.ErrDir)
	w.demand(n, api.MayRead)
	for _, e := range n.List {
		w.reply.Names = append(w.reply.Names, e.Name)
	}
	w.reply.N = len(n.List)
}

func (w *work) stat() {
	n := *w.way(w.op.Path)
	if n.Kind == api.Dir {
		w.reply.N = len(n.List)
	} else {
		w.reply.N = extent.Size(n.Body)
	}
	n.List, n.Body = nil, nil
	w.reply.Node = cloneNode(n)
}

func (w *work) read() {
	var n *api.Node
	if w.op.Path != "" {
		n = w.file(api.MayRead)
	} else {
		_, is := w.opened(w.op.Id)
		refuse(!is, api.ErrNone)
		n = w.node(w.op.Id)
	}
	refuse(w.op.Off < 0 || w.op.N < 0, api.ErrArg)
	w.reply.Body = extent.Part(n.Body, w.op.Off, w.op.N)
	w.reply.N = extent.Size(w.reply.Body)
}

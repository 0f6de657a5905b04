package tree_test

import (
	"maps"
	"slices"
	"strings"

	"burgage/acl"
	"burgage/api"
	"burgage/extent"
	"burgage/name"
)

// thing is a node that is reached by pointers, and knows nothing of its entries.
type thing struct {
	api.Node
	names map[string]*thing
}

// model does what the chapter says with things: what is reached from no name, and not open, goes by itself.
type model struct {
	top   *thing
	files map[int]*thing // those that are open
	opens map[api.Open]bool
	next  int
	ver   int
}

// modelOf returns the model of a valid tree.
func modelOf(t api.Tree) *model {
	things := map[int]*thing{}
	for _, n := range t.Nodes {
		things[n.Id] = &thing{Node: n, names: map[string]*thing{}}
	}
	for _, n := range t.Nodes {
		for _, e := range n.List {
			things[n.Id].names[e.Name] = things[e.Id]
		}
	}
	m := &model{top: things[1], files: map[int]*thing{}, opens: map[api.Open]bool{}, next: t.Next}
	for _, o := range t.Opens {
		m.opens[o] = true
		m.files[o.Node] = things[o.Node]
	}
	return m
}

// pairs returns all paths of what is at and below a thing, with that to which they lead.
func (a *thing) pairs() map[string]*thing {
	l := map[string]*thing{"": a}
	for n, b := range a.names {
		for p, c := range b.pairs() {
			l[strings.TrimSuffix(n+"/"+p, "/")] = c
		}
	}
	return l
}

// tree returns the tree of the model.
func (m *model) tree() api.Tree {
	links, things := map[*thing]int{}, map[*thing]bool{}
	for _, a := range m.top.pairs() {
		links[a]++
		things[a] = true
	}
	t := api.Tree{Next: m.next}
	for o := range m.opens {
		things[m.files[o.Node]] = true
		t.Opens = append(t.Opens, o)
	}
	for a := range things {
		n := a.Node
		n.Links, n.List = links[a], nil
		for _, x := range slices.Sorted(maps.Keys(a.names)) {
			n.List = append(n.List, api.Entry{Name: x, Id: a.names[x].Id})
		}
		t.Nodes = append(t.Nodes, n)
	}
	slices.SortFunc(t.Nodes, func(a, b api.Node) int { return a.Id - b.Id })
	slices.SortFunc(t.Opens, func(a, b api.Open) int { return (a.Node-b.Node)*1000 + a.Who - b.Who })
	return t
}

// size returns the number of nodes.
func (m *model) size() int { return len(m.tree().Nodes) }

func may(a *thing, who, right int) bool { return acl.Allows(a.Acl, who, a.Owner, right) }

// way follows the way of who along a path.
func (m *model) way(who int, path string) (*thing, api.Errno) {
	names, err := name.Parts(path)
	if err != api.OK {
		return nil, api.ErrPath
	}
	return m.follow(who, names)
}

func (m *model) follow(who int, names []string) (*thing, api.Errno) {
	a := m.top
	for _, n := range names {
		if a.Kind != api.Dir {
			return nil, api.ErrDir
		}
		if !may(a, who, x) {
			return nil, api.ErrDenied
		}
		if a.names[n] == nil {
			return nil, api.ErrNone
		}
		a = a.names[n]
	}
	return a, api.OK
}

// place finds the place of a path: a directory, and a name.
func (m *model) place(who int, path string) (*thing, string, api.Errno) {
	names, err := name.Parts(path)
	if err != api.OK || len(names) == 0 {
		return nil, "", api.ErrPath
	}
	last := len(names) - 1
	a, err := m.follow(who, names[:last])
	switch {
	case err != api.OK:
		return nil, "", err
	case a.Kind != api.Dir:
		return nil, "", api.ErrDir
	case !may(a, who, x):
		return nil, "", api.ErrDenied
	}
	return a, names[last], api.OK
}

// do executes an operation. With an error, the model is worth nothing any more.
func (m *model) do(o api.Op, ver int) api.Reply {
	m.ver = max(ver, 0)
	if o.Who < 0 || o.Who > 999 {
		return api.Reply{E: api.ErrArg}
	}
	var reply api.Reply
	switch o.Kind {
	case api.Mkdir, api.Create, api.Unlink, api.Rmdir:
		reply = m.doAtPlace(o)
	case api.Link:
		reply = m.link(o)
	case api.Rename:
		reply.E = m.rename(o)
	case api.Write, api.Append, api.Cut, api.OpenFile, api.Read:
		reply = m.doWithFile(o)
	case api.SetAcl, api.Chown, api.List, api.Stat:
		reply = m.doWithNode(o)
	case api.CloseFile:
		if !m.opens[api.Open{Node: o.N, Who: o.Who}] {
			reply.E = api.ErrNone
		}
		delete(m.opens, api.Open{Node: o.N, Who: o.Who})
	default:
		reply.E = api.ErrOp
	}
	if reply.E != api.OK {
		return api.Reply{E: reply.E}
	}
	return reply
}

// make makes a node.
func (m *model) make(dir *thing, n string, o api.Op) api.Reply {
	kind := map[int]int{api.Mkdir: api.Dir, api.Create: api.File}[o.Kind]
	a := &thing{Node: api.Node{Id: m.next, Kind: kind, Owner: o.Who, Acl: acl.Child(dir.Acl, kind == api.Dir), Ver: m.ver}, names: map[string]*thing{}}
	dir.names[n] = a
	dir.Ver = m.ver
	m.next++
	return api.Reply{N: a.Id}
}

func (m *model) doAtPlace(o api.Op) api.Reply {
	dir, n, err := m.place(o.Who, o.Path)
	if err != api.OK {
		return api.Reply{E: err}
	}
	a, makes := dir.names[n], o.Kind == api.Mkdir || o.Kind == api.Create
	switch {
	case makes && a != nil:
		return api.Reply{E: api.ErrExists}
	case !makes && a == nil:
		return api.Reply{E: api.ErrNone}
	case o.Kind == api.Unlink && a.Kind == api.Dir:
		return api.Reply{E: api.ErrFile}
	case o.Kind == api.Rmdir && a.Kind == api.File:
		return api.Reply{E: api.ErrDir}
	case !may(dir, o.Who, w):
		return api.Reply{E: api.ErrDenied}
	case makes && m.size() >= 256:
		return api.Reply{E: api.ErrBig}
	case makes:
		return m.make(dir, n, o)
	case o.Kind == api.Rmdir && len(a.names) > 0:
		return api.Reply{E: api.ErrEmpty}
	}
	delete(dir.names, n)
	dir.Ver = m.ver
	return api.Reply{}
}

func (m *model) link(o api.Op) api.Reply {
	a, err := m.way(o.Who, o.Path)
	if err != api.OK {
		return api.Reply{E: err}
	}
	if a.Kind == api.Dir {
		return api.Reply{E: api.ErrFile}
	}
	dir, n, err := m.place(o.Who, o.To)
	switch {
	case err != api.OK:
		return api.Reply{E: err}
	case dir.names[n] != nil:
		return api.Reply{E: api.ErrExists}
	case !may(dir, o.Who, w):
		return api.Reply{E: api.ErrDenied}
	}
	dir.names[n] = a
	dir.Ver = m.ver
	return api.Reply{N: a.Id}
}

func (m *model) rename(o api.Op) api.Errno {
	from, n, err := m.place(o.Who, o.Path)
	if err != api.OK {
		return err
	}
	a := from.names[n]
	if a == nil {
		return api.ErrNone
	}
	to, k, err := m.place(o.Who, o.To)
	if err != api.OK {
		return err
	}
	b := to.names[k]
	switch {
	case !may(from, o.Who, w) || !may(to, o.Who, w):
		return api.ErrDenied
	case o.To == o.Path || strings.HasPrefix(o.To, o.Path+"/"):
		return api.ErrInside
	case b != nil && a.Kind == api.Dir && b.Kind == api.File:
		return api.ErrDir
	case b != nil && a.Kind == api.File && b.Kind == api.Dir:
		return api.ErrFile
	case b != nil && len(b.names) > 0:
		return api.ErrEmpty
	}
	delete(from.names, n)
	from.Ver = m.ver
	if a != b {
		to.names[k] = a
		to.Ver = m.ver
	}
	for p := range m.top.pairs() {
		if strings.Count(p, "/") >= 8 {
			return api.ErrBig
		}
	}
	return api.OK
}

// opened returns the file of Read without a path.
func (m *model) opened(o api.Op) (*thing, api.Errno) {
	if !m.opens[api.Open{Node: o.Id, Who: o.Who}] {
		return nil, api.ErrNone
	}
	return m.files[o.Id], api.OK
}

// file returns the file that the way along Path leads to, where Who must have the right that the Kind needs.
func (m *model) file(o api.Op) (*thing, api.Errno) {
	right := w
	if o.Kind == api.OpenFile || o.Kind == api.Read {
		right = r
	}
	a, err := m.way(o.Who, o.Path)
	switch {
	case err != api.OK:
		return nil, err
	case a.Kind == api.Dir:
		return nil, api.ErrFile
	case !may(a, o.Who, right):
		return nil, api.ErrDenied
	}
	return a, api.OK
}

func (m *model) doWithFile(o api.Op) api.Reply {
	find := m.file
	if o.Kind == api.Read && o.Path == "" {
		find = m.opened
	}
	a, err := find(o)
	if err != api.OK {
		return api.Reply{E: err}
	}
	switch b := a.Body; o.Kind {
	case api.Write:
		b, err = extent.Put(b, o.Off, o.Id, o.N)
		return m.become(a, b, err)
	case api.Append:
		b, err = extent.Put(b, extent.Size(b), o.Id, o.N)
		return m.become(a, b, err)
	case api.Cut:
		b, err = extent.Cut(b, o.N)
		return m.become(a, b, err)
	case api.OpenFile:
		if !m.opens[api.Open{Node: a.Id, Who: o.Who}] && len(m.opens) >= 32 {
			return api.Reply{E: api.ErrBig}
		}
		m.opens[api.Open{Node: a.Id, Who: o.Who}] = true
		m.files[a.Id] = a
		return api.Reply{N: a.Id}
	}
	if o.Off < 0 || o.N < 0 {
		return api.Reply{E: api.ErrArg}
	}
	part := extent.Part(a.Body, o.Off, o.N)
	return api.Reply{Body: part, N: extent.Size(part)}
}

func (m *model) become(a *thing, b []api.Piece, err api.Errno) api.Reply {
	a.Body, a.Ver = b, m.ver
	return api.Reply{E: err, N: extent.Size(b)}
}

func (m *model) doWithNode(o api.Op) api.Reply {
	a, err := m.way(o.Who, o.Path)
	if err != api.OK {
		return api.Reply{E: err}
	}
	switch o.Kind {
	case api.SetAcl:
		return api.Reply{E: m.setAcl(a, o)}
	case api.Chown:
		if !may(a, o.Who, api.MayRule) {
			return api.Reply{E: api.ErrDenied}
		}
		if o.N < 0 || o.N > 999 {
			return api.Reply{E: api.ErrArg}
		}
		a.Owner, a.Ver = o.N, m.ver
		return api.Reply{}
	case api.List:
		if a.Kind == api.File {
			return api.Reply{E: api.ErrDir}
		}
		if !may(a, o.Who, r) {
			return api.Reply{E: api.ErrDenied}
		}
		return api.Reply{Names: slices.Sorted(maps.Keys(a.names)), N: len(a.names)}
	}
	n := a.Node
	n.List, n.Body = nil, nil
	return api.Reply{Node: n, N: len(a.names) + extent.Size(a.Body)}
}

func (m *model) setAcl(a *thing, o api.Op) api.Errno {
	if !may(a, o.Who, api.MayRule) {
		return api.ErrDenied
	}
	l := slices.Clone(o.Acl)
	for _, e := range o.Acl {
		if e.Given {
			return api.ErrAcl
		}
	}
	if !acl.Valid(o.Acl) {
		return api.ErrAcl
	}
	for _, e := range a.Acl {
		if e.Given {
			l = append(l, e)
		}
	}
	if len(l) > 16 {
		return api.ErrBig
	}
	a.Acl, a.Ver = l, m.ver
	return api.OK
}

// expected returns what Do should return.
func expected(t api.Tree, o api.Op, ver int) (api.Tree, api.Reply) {
	m := modelOf(t)
	reply := m.do(o, ver)
	if reply.E != api.OK {
		return t, reply
	}
	return m.tree(), reply
}

// number gives new numbers to a thing and all below it, in preorder, and returns the number after those.
func (a *thing) number(first int, seen map[*thing]bool) int {
	if seen[a] {
		return first
	}
	seen[a] = true
	a.Id = first
	first++
	for _, n := range slices.Sorted(maps.Keys(a.names)) {
		first = a.names[n].number(first, seen)
	}
	return first
}

// sub returns what Sub should return.
func sub(t api.Tree, path string) (api.Tree, api.Errno) {
	m := modelOf(t)
	a, err := m.way(0, path)
	if err != api.OK {
		return api.Tree{}, err
	}
	if a.Kind != api.Dir {
		return api.Tree{}, api.ErrDir
	}
	below := map[*thing]bool{}
	for _, b := range a.pairs() {
		below[b] = true
	}
	for p, b := range m.top.pairs() {
		if below[b] && b.Kind == api.File && !name.Below(p, path) {
			return api.Tree{}, api.ErrInside
		}
	}
	s := &model{top: a}
	s.next = a.number(1, map[*thing]bool{})
	return s.tree(), api.OK
}

// without returns what Without should return.
func without(t api.Tree, path string) (api.Tree, api.Errno) {
	if path == "" {
		return api.Tree{}, api.ErrPath
	}
	m := modelOf(t)
	if _, err := m.way(0, path); err != api.OK {
		return api.Tree{}, err
	}
	dir, n, _ := m.place(0, path)
	delete(dir.names, n)
	return m.tree(), api.OK
}

// graft returns what Graft should return.
func graft(t api.Tree, path string, s api.Tree) (api.Tree, api.Errno) {
	m := modelOf(t)
	dir, n, err := m.place(0, path)
	switch {
	case err != api.OK:
		return api.Tree{}, err
	case dir.names[n] != nil:
		return api.Tree{}, api.ErrExists
	case !valid(s):
		return api.Tree{}, api.ErrTree
	}
	a := modelOf(s).top
	m.next = a.number(t.Next, map[*thing]bool{})
	dir.names[n] = a
	for p := range m.top.pairs() {
		if strings.Count(p, "/") >= 8 {
			return api.Tree{}, api.ErrBig
		}
	}
	if m.size() > 256 {
		return api.Tree{}, api.ErrBig
	}
	return m.tree(), api.OK
}

// same says as the chapter does whether two trees are the same.
func same(s, t api.Tree) bool {
	a, b := modelOf(s).top.pairs(), modelOf(t).top.pairs()
	if len(a) != len(b) {
		return false
	}
	for p, c := range a {
		d := b[p]
		if d == nil || c.Kind != d.Kind || c.Owner != d.Owner || !acl.Same(c.Acl, d.Acl) || !extent.Same(c.Body, d.Body) {
			return false
		}
		for q := range a {
			if (c == a[q]) != (d == b[q]) {
				return false
			}
		}
	}
	return true
}

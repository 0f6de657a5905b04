package ledger

import "burgage/api"

// writer has the bytes of the fields that were written.
type writer struct{ content []byte }

// contentOf returns the content of any record.
func contentOf(x api.Record) []byte {
	var w writer
	w.record(x)
	return w.content
}

// numbers writes each number as its eight bytes.
func (w *writer) numbers(l ...int) {
	for _, n := range l {
		w.content = append(w.content, byte(n>>56), byte(n>>48), byte(n>>40), byte(n>>32), byte(n>>24), byte(n>>16), byte(n>>8), byte(n))
	}
}

func (w *writer) bool(is bool) {
	if is {
		w.numbers(1)
	} else {
		w.numbers(0)
	}
}

func (w *writer) texts(l ...string) {
	for _, s := range l {
		w.numbers(len(s))
		w.content = append(w.content, s...)
	}
}

// writeList writes the number of elements, and each of them.
func writeList[T any](w *writer, l []T, write func(T)) {
	w.numbers(len(l))
	for _, x := range l {
		write(x)
	}
}

// The fields of each struct are written in the order of their declarations. The methods of the reader have the same order.

func (w *writer) record(x api.Record) {
	w.numbers(x.Kind)
	w.op(x.Op)
	w.texts(x.Path, x.Name)
	w.numbers(x.N, x.M, x.Tx)
	w.limit(x.Limit)
	writeList(w, x.Ops, w.op)
	w.tree(x.Tree)
}

func (w *writer) op(x api.Op) {
	w.numbers(x.Kind, x.Who)
	w.texts(x.Path, x.To)
	w.numbers(x.Off, x.N, x.Id)
	writeList(w, x.Acl, w.ace)
}

func (w *writer) limit(x api.Limit) {
	w.numbers(x.Owner, x.Max.Nodes, x.Max.Bytes)
}

func (w *writer) tree(x api.Tree) {
	writeList(w, x.Nodes, w.node)
	w.numbers(x.Next)
	writeList(w, x.Opens, w.open)
}

func (w *writer) node(x api.Node) {
	w.numbers(x.Id, x.Kind, x.Owner)
	writeList(w, x.Acl, w.ace)
	writeList(w, x.List, w.entry)
	writeList(w, x.Body, w.piece)
	w.numbers(x.Links, x.Ver)
}

func (w *writer) ace(x api.Ace) {
	w.numbers(x.Who)
	w.bool(x.Allow)
	w.numbers(x.Rights, x.Reach)
	w.bool(x.Given)
}

func (w *writer) entry(x api.Entry) {
	w.texts(x.Name)
	w.numbers(x.Id)
}

func (w *writer) piece(x api.Piece) {
	w.numbers(x.Id, x.From, x.N)
}

func (w *writer) open(x api.Open) {
	w.numbers(x.Node, x.Who)
}

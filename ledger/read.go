package ledger

import "burgage/api"

// numberSize is how many bytes a number has.
const numberSize = 8

// reader has the bytes of a content that were not read yet. Its first fault ends it with a panic, so that what is read needs no looking at errors.
type reader struct{ rest []byte }

// recordOf returns the record with this content, whether it is right or not, and whether there is one.
func recordOf(content []byte) (x api.Record, is bool) {
	defer func() {
		if recover() != nil {
			x, is = api.Record{}, false
		}
	}()
	r := &reader{rest: content}
	x = r.record()
	refuse(len(r.rest) > 0)
	return x, true
}

// refuse ends the reader, if the bytes are bad.
func refuse(bad bool) {
	if bad {
		panic(api.ErrRecord)
	}
}

// next returns the next n bytes.
func (r *reader) next(n int) []byte {
	refuse(n < 0 || n > len(r.rest))
	b := r.rest[:n]
	r.rest = r.rest[n:]
	return b
}

func (r *reader) number() int {
	n := 0
	for _, x := range r.next(numberSize) {
		n = n<<8 | int(x)
	}
	return n
}

func (r *reader) numbers(l ...*int) {
	for _, n := range l {
		*n = r.number()
	}
}

func (r *reader) bool() bool {
	n := r.number()
	refuse(n != 0 && n != 1)
	return n == 1
}

func (r *reader) texts(l ...*string) {
	for _, s := range l {
		*s = string(r.next(r.number()))
	}
}

// readList reads the number of elements, and each of them. It makes no room for elements before they are there, since their number may be any.
func readList[T any](r *reader, read func() T) []T {
	n := r.number()
	refuse(n < 0)
	var l []T
	for range n {
		l = append(l, read())
	}
	return l
}

// The fields of each struct are read in the order of their declarations, as the methods of the writer write them.

func (r *reader) record() (x api.Record) {
	r.numbers(&x.Kind)
	x.Op = r.op()
	r.texts(&x.Path, &x.Name)
	r.numbers(&x.N, &x.M, &x.Tx)
	x.Limit = r.limit()
	x.Ops = readList(r, r.op)
	x.Tree = r.tree()
	return x
}

func (r *reader) op() (x api.Op) {
	r.numbers(&x.Kind, &x.Who)
	r.texts(&x.Path, &x.To)
	r.numbers(&x.Off, &x.N, &x.Id)
	x.Acl = readList(r, r.ace)
	return x
}

func (r *reader) limit() (x api.Limit) {
	r.numbers(&x.Owner, &x.Max.Nodes, &x.Max.Bytes)
	return x
}

func (r *reader) tree() (x api.Tree) {
	x.Nodes = readList(r, r.node)
	r.numbers(&x.Next)
	x.Opens = readList(r, r.open)
	return x
}

func (r *reader) node() (x api.Node) {
	r.numbers(&x.Id, &x.Kind, &x.Owner)
	x.Acl = readList(r, r.ace)
	x.List = readList(r, r.entry)
	x.Body = readList(r, r.piece)
	r.numbers(&x.Links, &x.Ver)
	return x
}

func (r *reader) ace() (x api.Ace) {
	r.numbers(&x.Who)
	x.Allow = r.bool()
	r.numbers(&x.Rights, &x.Reach)
	x.Given = r.bool()
	return x
}

func (r *reader) entry() (x api.Entry) {
	r.texts(&x.Name)
	r.numbers(&x.Id)
	return x
}

func (r *reader) piece() (x api.Piece) {
	r.numbers(&x.Id, &x.From, &x.N)
	return x
}

func (r *reader) open() (x api.Open) {
	r.numbers(&x.Node, &x.Who)
	return x
}

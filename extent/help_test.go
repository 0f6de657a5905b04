package extent_test

import (
	"math"
	"math/big"
	"math/rand"
	"slices"

	"burgage/api"
)

const most = api.MaxBytes

// odd are numbers that are out of all ranges, or great enough for sums to pass 64 bits.
var odd = []int{-1, -2, -most, -most - 1, math.MinInt, math.MinInt + 1, math.MinInt + most, math.MinInt32, math.MaxInt32, 1 << 32, 1<<32 + 1, 1<<62 + 1, math.MaxInt - most, math.MaxInt - 1, math.MaxInt}

// noChunks are numbers that no chunk has.
var noChunks = append(slices.Clone(odd), 0, 4096, 4097, 8192, 65536+7)

// atom is what one byte of a body is: that with an index of a chunk, zero, or an erased one.
type atom struct{ id, index int }

func piece(id, from, n int) api.Piece { return api.Piece{Id: id, From: from, N: n} }
func hole(n int) api.Piece            { return piece(api.Hole, 0, n) }
func gone(n int) api.Piece            { return piece(api.Gone, 0, n) }
func body(l ...api.Piece) []api.Piece { return l }

func pick[T any](g *rand.Rand, l []T) T { return l[g.Intn(len(l))] }

// atoms returns what the bytes of a body are, one by one.
func atoms(b []api.Piece) []atom {
	var l []atom
	for _, p := range b {
		for i := range p.N {
			if p.Id == api.Hole || p.Id == api.Gone {
				l = append(l, atom{id: p.Id})
			} else {
				l = append(l, atom{p.Id, p.From + i})
			}
		}
	}
	return l
}

// bodyOf returns the body of these bytes.
func bodyOf(l []atom) []api.Piece {
	var b []api.Piece
	for _, a := range l {
		b = append(b, piece(a.id, a.index, 1))
	}
	for i := 1; i < len(b); {
		if oneOf(b[i-1], b[i]) {
			b[i-1].N += b[i].N
			b = slices.Delete(b, i, i+1)
		} else {
			i++
		}
	}
	return b
}

// sum adds numbers as they are.
func sum(l ...int) *big.Int {
	s := new(big.Int)
	for _, x := range l {
		s.Add(s, big.NewInt(int64(x)))
	}
	return s
}

func less(a, b *big.Int) bool { return a.Cmp(b) < 0 }

// right says as the chapter does which pieces are right.
func right(p api.Piece) bool {
	if p.N < 1 {
		return false
	}
	switch p.Id {
	case api.Hole, api.Gone:
		return p.From == 0 && p.N <= most
	}
	return 1 <= p.Id && p.Id <= 4095 && p.From >= 0 && !less(sum(most), sum(p.From, p.N))
}

// oneOf says as the chapter does which right pieces can be one.
func oneOf(p, q api.Piece) bool {
	if p.Id == api.Hole || p.Id == api.Gone {
		return q.Id == p.Id
	}
	return q.Id == p.Id && q.From == p.From+p.N
}

// valid says as the chapter does which bodies are valid.
func valid(b []api.Piece) bool {
	size := sum()
	for i, p := range b {
		if !right(p) || i > 0 && oneOf(b[i-1], p) {
			return false
		}
		size.Add(size, sum(p.N))
	}
	return !less(sum(most), size)
}

// part returns the bytes of b with the indices from off on that are less than off + n.
func part(b []api.Piece, off, n int) []api.Piece {
	var l []atom
	for i, a := range atoms(b) {
		if i >= off && less(sum(i), sum(off, n)) {
			l = append(l, a)
		}
	}
	return bodyOf(l)
}

// put does byte by byte what Put shall do.
func put(b []api.Piece, off, id, n int) ([]api.Piece, api.Errno) {
	if !valid(b) {
		return nil, api.ErrBody
	}
	if id < 1 || id > 4095 || off < 0 || n < 1 {
		return nil, api.ErrArg
	}
	if less(sum(most), sum(off, n)) {
		return nil, api.ErrBig
	}
	l := atoms(b)
	for len(l) < off+n {
		l = append(l, atom{})
	}
	for i := range n {
		l[off+i] = atom{id, i}
	}
	return bodyOf(l), api.OK
}

// cut does byte by byte what Cut shall do.
func cut(b []api.Piece, n int) ([]api.Piece, api.Errno) {
	if !valid(b) {
		return nil, api.ErrBody
	}
	if n < 0 {
		return nil, api.ErrArg
	}
	if n > most {
		return nil, api.ErrBig
	}
	l := atoms(b)
	for len(l) < n {
		l = append(l, atom{})
	}
	return bodyOf(l[:n]), api.OK
}

// used returns the chunks of the bytes of b.
func used(b []api.Piece) []int {
	var ids []int
	for id := 1; id < api.MaxChunks; id++ {
		if slices.ContainsFunc(b, func(p api.Piece) bool { return p.Id == id }) {
			ids = append(ids, id)
		}
	}
	return ids
}

// erased does byte by byte what Erase shall do.
func erased(b []api.Piece, ids []int) []api.Piece {
	l := atoms(b)
	for i, a := range l {
		if a.id >= 1 && slices.Contains(ids, a.id) {
			l[i] = atom{id: api.Gone}
		}
	}
	return bodyOf(l)
}

// bytesOf does byte by byte what Bytes shall do.
func bytesOf(b []api.Piece, l []api.Blob) ([]byte, api.Errno) {
	all, lacking := []byte{}, false
	for _, a := range atoms(b) {
		if a.id == api.Gone {
			return nil, api.ErrErased
		}
		if a.id == api.Hole {
			all = append(all, 0)
			continue
		}
		i := slices.IndexFunc(l, func(x api.Blob) bool { return x.Id == a.id })
		if i < 0 || len(l[i].Data) <= a.index {
			lacking = true
			continue
		}
		all = append(all, l[i].Data[a.index])
	}
	if lacking {
		return nil, api.ErrNone
	}
	return all, api.OK
}

// somePiece returns a small piece, often of few chunks, so that neighbors can be one at times.
func somePiece(g *rand.Rand) api.Piece {
	n := 1 + g.Intn(6)
	switch g.Intn(6) {
	case 0:
		return hole(n)
	case 1:
		return gone(n)
	}
	return piece(pick(g, []int{1, 2, 7, 8, 4094, 4095}), g.Intn(4), n)
}

// someBody returns a small valid body, now and then an empty one; some of its neighbors are of one chunk, before each other, or with a gap.
func someBody(g *rand.Rand) []api.Piece {
	var b []api.Piece
	for range g.Intn(7) {
		p := somePiece(g)
		if i := len(b) - 1; i >= 0 && p.Id > 0 && b[i].Id > 0 {
			switch g.Intn(6) {
			case 0:
				p.Id, p.From = b[i].Id, b[i].From+b[i].N+1
			case 1:
				p.Id, p.From = b[i].Id, b[i].From
			case 2: // another chunk, which goes on where the one before ends
				p.From = b[i].From + b[i].N
			}
		}
		if i := len(b) - 1; i < 0 || !oneOf(b[i], p) {
			b = append(b, p)
		}
	}
	return b
}

// someIds returns numbers, also of no chunks, and some twice.
func someIds(g *rand.Rand) []int {
	var ids []int
	for range g.Intn(5) {
		ids = append(ids, pick(g, []int{1, 2, 7, 8, 4094, 4095, 3, 0, -1, 4096, pick(g, noChunks)}))
	}
	if len(ids) > 0 && g.Intn(3) == 0 {
		ids = append(ids, pick(g, ids))
	}
	return ids
}

// someBlobs returns chunks, of which some have few bytes, some are there twice, and some have numbers of no chunks.
func someBlobs(g *rand.Rand) []api.Blob {
	var l []api.Blob
	for _, id := range []int{1, 2, 7, 8, 4094, 4095, 0, -1, 4096, 3, 1, 7} {
		if g.Intn(8) == 0 {
			continue
		}
		data := make([]byte, g.Intn(4)*g.Intn(20)+8*g.Intn(3))
		g.Read(data)
		l = append(l, api.Blob{Id: id, Data: data})
	}
	g.Shuffle(len(l), func(i, j int) { l[i], l[j] = l[j], l[i] })
	return l
}

// full returns chunks with so many bytes each, which are all different somewhere.
func full(g *rand.Rand, n int, ids ...int) []api.Blob {
	var l []api.Blob
	for _, id := range ids {
		data := make([]byte, n)
		g.Read(data)
		l = append(l, api.Blob{Id: id, Data: data})
	}
	return l
}

// notValid returns bodies that are not valid.
func notValid() [][]api.Piece {
	l := [][]api.Piece{
		body(hole(0)), body(gone(0)), body(piece(7, 0, 0)), body(piece(7, 5, 0)),
		body(piece(api.Hole, 1, 1)), body(piece(api.Gone, 1, 1)), body(piece(7, -1, 2)), body(piece(7, -1, 1)),
		body(hole(1), hole(1)), body(gone(2), gone(1)), body(piece(7, 0, 1), piece(7, 1, 1)), body(piece(4095, 3, 4), piece(4095, 7, 1)),
		body(piece(7, 0, 2), hole(1), hole(3)), body(piece(7, 0, 2), hole(1), piece(8, 0, 2), piece(8, 2, 2)), body(gone(1), gone(1), hole(1)),
		body(hole(most + 1)), body(gone(most + 1)), body(piece(7, 0, most+1)), body(piece(7, 1, most)), body(piece(7, most, 1)), body(piece(7, most-5, 6), piece(7, most-5, 6), piece(7, most-4, 5)),
		body(hole(most), gone(1)), body(gone(1), hole(most)), body(piece(7, 0, most), piece(7, 0, 1)), body(hole(most/2), piece(1, 0, most/4), gone(most/4+1)),
		body(hole(most), gone(most)), body(piece(7, 0, most), piece(7, 0, most)),
		body(hole(1), hole(0)), body(gone(1), piece(1, 0, 1), piece(0, 1, 0)),
	}
	for _, x := range odd {
		l = append(l, body(hole(x)), body(gone(x)), body(piece(7, 0, x)), body(piece(7, x, 1)), body(piece(7, x, x)), body(piece(api.Hole, x, 1)), body(piece(api.Gone, x, 1)), body(piece(7, 1, x)),
			body(hole(1), gone(x)), body(piece(7, 0, 1), piece(7, 2, x), hole(1)), body(piece(7, x, -x)), body(piece(7, x, 1-x)), body(hole(x), gone(x), piece(1, 0, x)), body(piece(1, 0, x), piece(2, 0, -x)))
	}
	for _, id := range noChunks {
		if id != api.Hole && id != api.Gone {
			l = append(l, body(piece(id, 0, 1)), body(hole(1), piece(id, 2, 3)))
		}
	}
	// Many pieces, each of which is right, whose numbers of bytes have a sum that is as small as wanted, modulo 2^32.
	many := slices.Repeat(body(hole(most), gone(most)), 2048)
	return append(l, many, append(slices.Clone(many), hole(1)), append(slices.Repeat(body(hole(1), gone(1)), most/2), hole(1)))
}

// samples are valid bodies.
func samples() [][]api.Piece {
	return [][]api.Piece{
		nil, {}, body(hole(1)), body(gone(1)), body(piece(1, 0, 1)), body(piece(4095, 0, 1)), body(piece(4095, 5, 2)),
		body(hole(3), piece(7, 0, 2)), body(hole(3), piece(7, 0, 2), piece(8, 0, 1)), body(hole(3), gone(2)),
		body(piece(7, 0, 2), piece(7, 3, 2)), body(piece(7, 0, 2), piece(7, 1, 2)), body(piece(7, 0, 2), piece(7, 0, 2)), body(piece(7, 2, 2), piece(7, 0, 2)),
		body(piece(7, 0, 2), piece(8, 2, 2)), body(hole(2), gone(2), hole(2), gone(2)), body(piece(7, 0, 2), hole(1), piece(7, 2, 2)), body(piece(7, 0, 2), gone(1), piece(7, 2, 2)),
		body(piece(4094, 9, 3), piece(4095, 12, 3)), body(gone(3), hole(4)), body(hole(4), piece(1, 0, 4)), body(piece(1, 4, 4), gone(4)),
	}
}

// great are valid bodies of 2^20 bytes.
func great() [][]api.Piece {
	return [][]api.Piece{
		body(hole(most)), body(gone(most)), body(piece(1, 0, most)), body(piece(4095, 0, most)), body(hole(most-1), gone(1)), body(piece(7, most-1, 1), piece(7, 0, most-1)),
		body(piece(7, most/2, most/2), piece(7, 0, most/2)), body(hole(1), piece(7, 1, most-1)), slices.Repeat(body(hole(1), gone(1)), most/2), slices.Repeat(body(piece(7, 0, 1)), most),
	}
}

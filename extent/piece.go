package extent

import (
	"iter"

	"burgage/api"
)

// isChunk reports whether id is the number of a chunk.
func isChunk(id int) bool { return 1 <= id && id < api.MaxChunks }

// isRight reports whether a piece may be in a body.
func isRight(p api.Piece) bool {
	// The sum of both may overflow, the difference cannot.
	if p.N < 1 || p.From < 0 || p.From > api.MaxBytes-p.N {
		return false
	}
	return isChunk(p.Id) || (p.Id == api.Hole || p.Id == api.Gone) && p.From == 0
}

// canBeOne reports whether two pieces, one after the other, stand for what one piece can stand for.
func canBeOne(p, next api.Piece) bool {
	return p.Id == next.Id && (!isChunk(p.Id) || next.From == p.From+p.N)
}

// join returns b with a piece behind it. It changes the last piece of b, if both can be one.
func join(b []api.Piece, p api.Piece) []api.Piece {
	if last := len(b) - 1; last >= 0 && canBeOne(b[last], p) {
		b[last].N += p.N
		return b
	}
	return append(b, p)
}

// fold combines what is made so far with the next element, for all elements of runs.
func fold[A, E any](made A, next func(A, E) A, runs ...iter.Seq[E]) A {
	for _, run := range runs {
		for e := range run {
			made = next(made, e)
		}
	}
	return made
}

// within yields the pieces of b from the byte lo on, without the byte hi.
func within(b []api.Piece, lo, hi int) iter.Seq[api.Piece] {
	return func(yield func(api.Piece) bool) {
		at := 0
		for _, p := range b {
			from, to := max(lo-at, 0), min(hi-at, p.N)
			at += p.N
			if from >= to {
				continue
			}
			p.N = to - from
			if isChunk(p.Id) {
				p.From += from
			}
			if !yield(p) {
				return
			}
		}
	}
}

// without yields the pieces of b, erased where isGone says so.
func without(b []api.Piece, isGone func(api.Piece) bool) iter.Seq[api.Piece] {
	return func(yield func(api.Piece) bool) {
		for _, p := range b {
			if isGone(p) {
				p = api.Piece{Id: api.Gone, N: p.N}
			}
			if !yield(p) {
				return
			}
		}
	}
}

// one yields one piece.
func one(p api.Piece) iter.Seq[api.Piece] {
	return func(yield func(api.Piece) bool) { yield(p) }
}

// hole yields a hole of n bytes, or nothing, if there are none.
func hole(n int) iter.Seq[api.Piece] {
	if n <= 0 {
		return func(func(api.Piece) bool) {}
	}
	return one(api.Piece{Id: api.Hole, N: n})
}

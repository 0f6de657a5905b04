package extent_test

import (
	"math/rand"
	"slices"
	"testing"

	"burgage/api"
	"burgage/extent"
)

// P8.1 (H1), P8.8: bodies that are valid, that of no pieces and those of 2^20 bytes among them.
func TestValid(t *testing.T) {
	for _, b := range append(samples(), great()...) {
		if !extent.Valid(b) {
			t.Errorf("%v is not valid", b[:min(len(b), 5)])
		}
	}
	g := rand.New(rand.NewSource(1))
	for range 5000 {
		if b := someBody(g); !extent.Valid(b) {
			t.Fatalf("%v is not valid", b)
		}
	}
}

// P8.1 (H1), P8.8: bodies that are not valid: with pieces that are not right, with neighbors that can be one, with too many bytes, and where numbers or sums pass all bounds.
func TestValidRefuses(t *testing.T) {
	for _, b := range notValid() {
		if extent.Valid(b) {
			t.Errorf("%v is valid", b[:min(len(b), 5)])
		}
		// What is wrong is found also behind and before what is right.
		for _, p := range body(piece(9, 77, 3), piece(10, 77, 3)) {
			if extent.Valid(append(body(p), b...)) || extent.Valid(append(slices.Clone(b), p)) {
				t.Errorf("%v is valid with %v", b[:min(len(b), 5)], p)
			}
		}
	}
}

// P8.1 (H1): which pieces are right, at the bounds of all fields.
func TestRightPieces(t *testing.T) {
	ids := append(slices.Clone(noChunks), 1, 2, 7, 2048, 4094, 4095)
	numbers := append(slices.Clone(odd), 0, 1, 2, most/2, most/2+1, most-2, most-1, most, most+1)
	for _, id := range ids {
		for _, from := range numbers {
			for _, n := range numbers {
				if b := body(piece(id, from, n)); extent.Valid(b) != right(b[0]) {
					t.Errorf("%v is valid: %v", b, !right(b[0]))
				}
			}
		}
	}
}

// P8.1 (H1): which pairs and triples can be neighbors.
func TestNeighbors(t *testing.T) {
	var l []api.Piece
	for n := 1; n <= 3; n++ {
		l = append(l, hole(n), gone(n))
		for from := range 4 {
			l = append(l, piece(1, from, n), piece(2, from, n), piece(4095, from, n))
		}
	}
	g := rand.New(rand.NewSource(2))
	for _, p := range l {
		for _, q := range l {
			x := pick(g, l)
			for _, b := range [][]api.Piece{body(p, q), body(p, q, x), body(x, p, q)} {
				if got := extent.Valid(b); got != valid(b) {
					t.Fatalf("%v is valid: %v", b, got)
				}
			}
		}
	}
}

// P8.1 (H1), P8.8: bodies of about 2^20 bytes, of few pieces and of many.
func TestValidSizes(t *testing.T) {
	g := rand.New(rand.NewSource(3))
	for range 2000 {
		var b []api.Piece
		left := most
		for range g.Intn(5) {
			p := somePiece(g)
			p.N = 1 + g.Intn(most/4)
			left -= p.N
			b = append(b, p)
		}
		last := piece(3, 0, left+g.Intn(5)-2)
		b = append(b, last)
		if got := extent.Valid(b); got != valid(b) {
			t.Fatalf("%v is valid: %v", b, got)
		}
	}
}

// P8.7 (H1): of all small lists of pieces that stand for the same bytes, one is valid: that which has the fewest pieces.
func TestOneForm(t *testing.T) {
	forms := map[string][]api.Piece{}
	var all [][]api.Piece
	var grow func(b []api.Piece, left int)
	grow = func(b []api.Piece, left int) {
		all = append(all, b)
		for _, id := range []int{api.Hole, api.Gone, 1, 4095} {
			for from := 0; from < 3 && (id > 0 || from == 0); from++ {
				for n := 1; n <= left; n++ {
					grow(append(slices.Clone(b), piece(id, from, n)), left-n)
				}
			}
		}
	}
	grow(nil, 4)
	for _, b := range all {
		if !extent.Valid(b) {
			continue
		}
		key := text(b)
		if form, is := forms[key]; is {
			t.Fatalf("%v and %v are the same bytes, and both valid", b, form)
		}
		forms[key] = b
	}
	for _, b := range all {
		form, is := forms[text(b)]
		if !is || extent.Valid(b) != slices.Equal(b, form) || len(form) > len(b) {
			t.Fatalf("%v is valid: %v, with the form %v", b, extent.Valid(b), form)
		}
	}
}

// text returns a text that says what all bytes of a body are.
func text(b []api.Piece) string {
	var l []byte
	for _, a := range atoms(b) {
		l = append(l, byte(a.id), byte(a.id>>8), byte(a.index))
	}
	return string(l)
}

// P8.7 (H9): bodies are the same exactly if they stand for the same bytes; those that differ in one field of one piece, in order, and in length are not.
func TestSame(t *testing.T) {
	g := rand.New(rand.NewSource(4))
	for range 5000 {
		a, b := someBody(g), someBody(g)
		if got := extent.Same(a, b); got != (text(a) == text(b)) {
			t.Fatalf("%v and %v are the same: %v", a, b, got)
		}
		if !extent.Same(a, slices.Clone(a)) {
			t.Fatalf("%v is not the same again", a)
		}
		for i := range a {
			for _, change := range []func(p *api.Piece){func(p *api.Piece) { p.Id++ }, func(p *api.Piece) { p.From++ }, func(p *api.Piece) { p.N++ }, func(p *api.Piece) { p.From, p.N = p.N, p.From+1 }} {
				c := slices.Clone(a)
				change(&c[i])
				if got := extent.Same(a, c); got != slices.Equal(a, c) || extent.Same(c, a) != got {
					t.Fatalf("%v and %v are the same: %v", a, c, got)
				}
			}
			if extent.Same(a, a[:i]) || extent.Same(a[:i], a) {
				t.Fatalf("%v and its first %d pieces are the same", a, i)
			}
		}
	}
	if !extent.Same(nil, []api.Piece{}) || extent.Same(nil, body(api.Piece{})) || extent.Same(body(hole(1)), body(gone(1))) {
		t.Error("short lists")
	}
}

// P8.1 (H9): lists that are not valid are compared piece by piece, too, whatever they stand for.
func TestSameNotValid(t *testing.T) {
	l := append(notValid(), samples()...)
	for i, a := range l {
		for j, b := range l {
			if got := extent.Same(a, b); got != slices.Equal(a, b) {
				t.Fatalf("the lists %d and %d are the same: %v", i, j, got)
			}
		}
	}
	if extent.Same(body(piece(7, 0, 2)), body(piece(7, 0, 1), piece(7, 1, 1))) {
		t.Error("what stands for the same bytes is not the same, if one is not valid")
	}
}

// P8.1 (H2): how many bytes there are.
func TestSize(t *testing.T) {
	for _, b := range samples() {
		if got := extent.Size(b); got != len(atoms(b)) {
			t.Errorf("Size of %v: %d", b, got)
		}
	}
	for _, b := range great() {
		if got := extent.Size(b); got != most {
			t.Errorf("Size of %v: %d", b[:min(len(b), 5)], got)
		}
	}
	g := rand.New(rand.NewSource(5))
	for range 1000 {
		if b := someBody(g); extent.Size(b) != len(atoms(b)) {
			t.Fatalf("Size of %v: %d", b, extent.Size(b))
		}
	}
}

// P8.1 (H6): the chunks are told once each, in increasing order, also if there are all.
func TestUsed(t *testing.T) {
	for _, e := range []struct {
		b    []api.Piece
		want []int
	}{
		{nil, nil}, {body(hole(3)), nil}, {body(gone(3)), nil}, {body(hole(3), gone(1), hole(2)), nil},
		{body(piece(1, 0, 1)), []int{1}}, {body(piece(4095, 9, 1)), []int{4095}},
		{body(piece(8, 0, 1), hole(1), piece(7, 0, 1), gone(1), piece(8, 1, 1), piece(1, 0, 1)), []int{1, 7, 8}},
		{body(piece(4095, 0, 1), piece(1, 0, 1), piece(4095, 1, 1)), []int{1, 4095}},
	} {
		if got := extent.Used(e.b); !slices.Equal(got, e.want) {
			t.Errorf("Used of %v: %v", e.b, got)
		}
	}
	g := rand.New(rand.NewSource(6))
	for range 300 {
		if b := someBody(g); !slices.Equal(extent.Used(b), used(b)) {
			t.Fatalf("Used of %v: %v", b, extent.Used(b))
		}
	}
	var b []api.Piece
	var all []int
	for id := 1; id < 4096; id++ {
		all = append(all, id)
		b = append(b, piece(4096-id, id, 1), piece(1+g.Intn(4095), 0, 1))
	}
	if got := extent.Used(b); !slices.Equal(got, all) {
		t.Errorf("Used of all: %v", got)
	}
}

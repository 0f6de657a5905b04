package extent_test

import (
	"math/rand"
	"slices"
	"testing"

	"burgage/api"
	"burgage/extent"
)

// P8.1 to P8.6: the examples of the chapter.
func TestExamples(t *testing.T) {
	first, err := extent.Put(nil, 3, 7, 2)
	if want := body(hole(3), piece(7, 0, 2)); !slices.Equal(first, want) || err != api.OK {
		t.Fatalf("Put: %v, %v", first, err)
	}
	if got, err := extent.Put(first, 5, 8, 1); !slices.Equal(got, body(hole(3), piece(7, 0, 2), piece(8, 0, 1))) || err != api.OK {
		t.Errorf("Put: %v, %v", got, err)
	}
	if got := extent.Part(first, 2, 2); !slices.Equal(got, body(hole(1), piece(7, 0, 1))) {
		t.Errorf("Part: %v", got)
	}
	if got, err := extent.Cut(first, 4); !slices.Equal(got, body(hole(3), piece(7, 0, 1))) || err != api.OK {
		t.Errorf("Cut: %v, %v", got, err)
	}
	if got, err := extent.Cut(first, 6); !slices.Equal(got, body(hole(3), piece(7, 0, 2), hole(1))) || err != api.OK {
		t.Errorf("Cut: %v, %v", got, err)
	}
	last := extent.Erase(first, []int{7})
	if !slices.Equal(last, body(hole(3), gone(2))) {
		t.Errorf("Erase: %v", last)
	}
	if got, err := extent.Bytes(last, nil); len(got) > 0 || err != api.ErrErased {
		t.Errorf("Bytes: %v, %v", got, err)
	}
}

// P8.1, P8.2 (H3): all parts of small bodies, those at the end, beyond it and before the beginning among them.
func TestPart(t *testing.T) {
	g := rand.New(rand.NewSource(11))
	list := samples()
	for range 200 {
		list = append(list, someBody(g))
	}
	for _, b := range list {
		size := extent.Size(b)
		for off := -3; off <= size+2; off++ {
			for n := -2; n <= size+5; n++ {
				if got, want := extent.Part(b, off, n), part(b, off, n); !slices.Equal(got, want) {
					t.Fatalf("Part of %v, %d, %d: %v, not %v", b, off, n, got, want)
				}
			}
		}
	}
}

// P8.1 (H3): offsets and lengths whose sum passes 64 bits, or is as small as they are great.
func TestPartGreatNumbers(t *testing.T) {
	numbers := append(slices.Clone(odd), 0, 1, 2, 4, 5, 6, 100)
	for _, x := range odd {
		numbers = append(numbers, -x, 2-x, 3+x)
	}
	for _, b := range samples() {
		for _, off := range numbers {
			for _, n := range numbers {
				if got, want := extent.Part(b, off, n), part(b, off, n); !slices.Equal(got, want) {
					t.Fatalf("Part of %v, %d, %d: %v, not %v", b, off, n, got, want)
				}
			}
		}
	}
}

// P8.2 (H3): parts that follow each other make the body again: their bytes do, and so does joining what can be one.
func TestPartsMakeAll(t *testing.T) {
	g := rand.New(rand.NewSource(12))
	for range 3000 {
		b := someBody(g)
		var l []atom
		for off := 0; off < extent.Size(b)+3; {
			n := g.Intn(6)
			p := extent.Part(b, off, n)
			if !extent.Valid(p) {
				t.Fatalf("Part of %v, %d, %d is not valid: %v", b, off, n, p)
			}
			l = append(l, atoms(p)...)
			off += n
		}
		if !slices.Equal(l, atoms(b)) || !slices.Equal(bodyOf(l), b) {
			t.Fatalf("the parts of %v make %v", b, bodyOf(l))
		}
	}
}

// P8.2, P8.8 (H3): parts of bodies of 2^20 bytes.
func TestPartGreat(t *testing.T) {
	for _, b := range great() {
		if got := extent.Part(b, 0, most); !slices.Equal(got, b) {
			t.Errorf("all of %v: %v", b[:1], got[:min(len(got), 5)])
		}
		for _, off := range []int{1, most/2 - 1, most / 2, most - 1} {
			p, q := extent.Part(b, 0, off), extent.Part(b, off, most)
			if extent.Size(p) != off || extent.Size(q) != most-off || !extent.Valid(p) || !extent.Valid(q) {
				t.Errorf("the parts of %v at %d have %d and %d bytes", b[:1], off, extent.Size(p), extent.Size(q))
			}
		}
	}
	if got := extent.Part(great()[5], 1, 2); !slices.Equal(got, body(piece(7, 0, 2))) {
		t.Errorf("Part: %v", got)
	}
}

// P8.1, P8.3 (H4): all places of small bodies: at the beginning, in the midst, over several pieces, at the end and beyond it.
func TestPut(t *testing.T) {
	g := rand.New(rand.NewSource(13))
	list := samples()
	for range 150 {
		list = append(list, someBody(g))
	}
	for _, b := range list {
		size := extent.Size(b)
		for off := range size + 4 {
			for n := 1; n <= size+2; n++ {
				for _, id := range []int{1, 7, 8, 4095} {
					got, err := extent.Put(b, off, id, n)
					if want, wantErr := put(b, off, id, n); !slices.Equal(got, want) || err != wantErr {
						t.Fatalf("Put to %v, %d, %d, %d: %v, %v, not %v, %v", b, off, id, n, got, err, want, wantErr)
					}
				}
			}
		}
	}
}

// P8.3 (H4), P8.7: what is put is there, all other bytes stay, between the end and it is a hole, and the body is valid; a long way of puts.
func TestPutAgainAndAgain(t *testing.T) {
	g := rand.New(rand.NewSource(14))
	for range 200 {
		var b []api.Piece
		for range 40 {
			off, id, n := g.Intn(extent.Size(b)+4), pick(g, []int{1, 2, 3, 4095}), 1+g.Intn(12)
			before, size := atoms(b), extent.Size(b)
			got, err := extent.Put(b, off, id, n)
			if err != api.OK || !extent.Valid(got) || extent.Size(got) != max(size, off+n) {
				t.Fatalf("Put to %v, %d, %d, %d: %v, %v", b, off, id, n, got, err)
			}
			for i, a := range atoms(got) {
				want := atom{}
				switch {
				case off <= i && i < off+n:
					want = atom{id, i - off}
				case i < size:
					want = before[i]
				}
				if a != want {
					t.Fatalf("Put to %v, %d, %d, %d: the byte %d is %v", b, off, id, n, i, a)
				}
			}
			if again, err := extent.Put(got, off, id, n); !extent.Same(again, got) || err != api.OK {
				t.Fatalf("Put to %v, %d, %d, %d, which is there: %v, %v", got, off, id, n, again, err)
			}
			b = got
		}
	}
}

// P8.3 (H4): what is put becomes one piece with what follows it, if this is what follows in the chunk.
func TestPutJoins(t *testing.T) {
	for _, e := range []struct {
		b          []api.Piece
		off, id, n int
		want       []api.Piece
	}{
		{body(piece(7, 0, 5)), 0, 7, 5, body(piece(7, 0, 5))},
		{body(piece(7, 0, 5)), 0, 7, 3, body(piece(7, 0, 5))},
		{body(piece(7, 0, 5)), 1, 7, 3, body(piece(7, 0, 1), piece(7, 0, 3), piece(7, 4, 1))},
		{body(hole(2), piece(7, 2, 3)), 0, 7, 2, body(piece(7, 0, 5))},
		{body(hole(2), piece(7, 3, 3)), 0, 7, 2, body(piece(7, 0, 2), piece(7, 3, 3))},
		{body(hole(2), piece(8, 2, 3)), 0, 7, 2, body(piece(7, 0, 2), piece(8, 2, 3))},
		{body(hole(2)), 4, 7, 1, body(hole(4), piece(7, 0, 1))},
		{body(gone(2)), 4, 7, 1, body(gone(2), hole(2), piece(7, 0, 1))},
		{body(gone(5)), 2, 7, 1, body(gone(2), piece(7, 0, 1), gone(2))},
		{body(hole(1), piece(7, 0, 1), gone(1), piece(8, 5, 1)), 0, 9, 4, body(piece(9, 0, 4))},
		{body(hole(1), piece(7, 0, 1), gone(1), piece(8, 5, 1)), 0, 9, 7, body(piece(9, 0, 7))},
		{body(piece(7, 0, 2)), 2, 7, 2, body(piece(7, 0, 2), piece(7, 0, 2))},
	} {
		if got, err := extent.Put(e.b, e.off, e.id, e.n); !slices.Equal(got, e.want) || err != api.OK {
			t.Errorf("Put to %v, %d, %d, %d: %v, %v", e.b, e.off, e.id, e.n, got, err)
		}
	}
}

// P8.8, P8.1 (H4): bytes are put up to 2^20, and not beyond it, with sums that pass 64 bits as well; errors in their order.
func TestPutRefuses(t *testing.T) {
	numbers := append(slices.Clone(odd), 0, 1, 2, 5, most/2, most/2+1, most-2, most-1, most, most+1, most+2)
	ids := append(slices.Clone(noChunks), 1, 7, 4095)
	for _, b := range [][]api.Piece{nil, body(hole(3), piece(7, 0, 2)), body(piece(7, 0, most)), body(hole(1), hole(1)), body(hole(most), gone(1))} {
		for _, off := range numbers {
			for _, n := range numbers {
				for _, id := range ids {
					// Those that are not refused are looked at by TestPutGreat.
					want := api.OK
					switch {
					case !valid(b):
						want = api.ErrBody
					case id < 1 || id > 4095 || off < 0 || n < 1:
						want = api.ErrArg
					case less(sum(most), sum(off, n)):
						want = api.ErrBig
					}
					if got, err := extent.Put(b, off, id, n); err != want || err != api.OK && len(got) > 0 {
						t.Fatalf("Put to %v, %d, %d, %d: %v, %v, not %v", b, off, id, n, got, err, want)
					}
				}
			}
		}
	}
	for _, b := range notValid() {
		for _, x := range [][3]int{{0, 7, 1}, {-1, 7, 1}, {0, 0, 1}, {most, 7, 1}} {
			if got, err := extent.Put(b, x[0], x[1], x[2]); err != api.ErrBody || len(got) > 0 {
				t.Fatalf("Put to %v, %v: %v, %v", b[:min(len(b), 5)], x, got, err)
			}
		}
	}
}

// P8.8, P8.3 (H4): bytes that end at 2^20 are put.
func TestPutGreat(t *testing.T) {
	for _, e := range []struct {
		b      []api.Piece
		off, n int
		want   []api.Piece
	}{
		{nil, 0, most, body(piece(7, 0, most))},
		{nil, most - 1, 1, body(hole(most-1), piece(7, 0, 1))},
		{nil, 1, most - 1, body(hole(1), piece(7, 0, most-1))},
		{body(hole(3)), most - 2, 2, body(hole(most-2), piece(7, 0, 2))},
		{body(gone(3)), most - 2, 2, body(gone(3), hole(most-5), piece(7, 0, 2))},
		{body(gone(most)), most - 2, 2, body(gone(most-2), piece(7, 0, 2))},
		{body(gone(most)), 0, most, body(piece(7, 0, most))},
		{body(gone(most)), 0, 1, body(piece(7, 0, 1), gone(most-1))},
		{body(piece(7, 0, most)), 0, 4, body(piece(7, 0, most))},
		{body(piece(8, 0, most)), 4, 4, body(piece(8, 0, 4), piece(7, 0, 4), piece(8, 8, most-8))},
		{slices.Repeat(body(piece(8, 0, 1)), most), 2, most - 2, body(piece(8, 0, 1), piece(8, 0, 1), piece(7, 0, most-2))},
	} {
		got, err := extent.Put(e.b, e.off, 7, e.n)
		if !slices.Equal(got, e.want) || err != api.OK {
			t.Errorf("Put at %d, %d: %v, %v", e.off, e.n, got[:min(len(got), 5)], err)
		}
		for _, n := range []int{most - e.off + 1, most - e.off + 2, most + 1} {
			if got, err := extent.Put(e.b, e.off, 7, n); len(got) > 0 || err != api.ErrBig {
				t.Errorf("Put at %d, %d: %v", e.off, n, err)
			}
		}
	}
}

// P8.4, P8.1 (H5): all sizes of small bodies, 0 and their own among them: the bytes before the new end stay, further ones are holes.
func TestCut(t *testing.T) {
	g := rand.New(rand.NewSource(15))
	list := samples()
	for range 1000 {
		list = append(list, someBody(g))
	}
	for _, b := range list {
		size := extent.Size(b)
		for n := range size + 6 {
			got, err := extent.Cut(b, n)
			if want, wantErr := cut(b, n); !slices.Equal(got, want) || err != wantErr {
				t.Fatalf("Cut of %v, %d: %v, %v, not %v, %v", b, n, got, err, want, wantErr)
			}
			if err != api.OK || !extent.Valid(got) || extent.Size(got) != n || !slices.Equal(extent.Part(got, 0, size), extent.Part(b, 0, n)) && n <= size {
				t.Fatalf("Cut of %v, %d: %v, %v", b, n, got, err)
			}
		}
	}
}

// P8.4 (H5): holes at the end grow, erased bytes do not.
func TestCutGrows(t *testing.T) {
	for _, e := range []struct {
		b    []api.Piece
		n    int
		want []api.Piece
	}{
		{nil, 0, nil}, {nil, 1, body(hole(1))}, {nil, most, body(hole(most))},
		{body(hole(2)), 5, body(hole(5))}, {body(gone(2)), 5, body(gone(2), hole(3))}, {body(piece(7, 0, 2)), 5, body(piece(7, 0, 2), hole(3))},
		{body(piece(7, 0, 2), hole(1)), most, body(piece(7, 0, 2), hole(most-2))}, {body(piece(7, 0, most)), most, body(piece(7, 0, most))},
		{body(piece(7, 0, most)), most - 1, body(piece(7, 0, most-1))}, {body(piece(7, 0, most)), 0, nil}, {body(gone(most)), 1, body(gone(1))},
	} {
		if got, err := extent.Cut(e.b, e.n); !slices.Equal(got, e.want) || err != api.OK {
			t.Errorf("Cut of %v, %d: %v, %v", e.b, e.n, got, err)
		}
	}
}

// P8.8, P8.1 (H5): bodies that are not valid, and sizes that are negative and beyond 2^20; errors in their order.
func TestCutRefuses(t *testing.T) {
	numbers := append(slices.Clone(odd), 0, 1, 5, most-1, most, most+1, most+2)
	for _, b := range append(notValid(), samples()...) {
		isValid := valid(b)
		for _, n := range numbers {
			want := api.OK
			switch {
			case !isValid:
				want = api.ErrBody
			case n < 0:
				want = api.ErrArg
			case n > most:
				want = api.ErrBig
			}
			if got, err := extent.Cut(b, n); err != want || err != api.OK && len(got) > 0 || err == api.OK && extent.Size(got) != n {
				t.Fatalf("Cut of %v, %d: %v, not %v", b[:min(len(b), 5)], n, err, want)
			}
		}
	}
	for _, b := range great() {
		if got, err := extent.Cut(b, most); !slices.Equal(got, b) || err != api.OK {
			t.Errorf("Cut of %v to its size: %v", b[:1], err)
		}
	}
}

// P8.5, P8.1 (H7): of no chunks, of all, of chunks that are not there, of one twice, and of numbers that no chunk has: bytes of erased chunks are gone, all others stay.
func TestErase(t *testing.T) {
	g := rand.New(rand.NewSource(16))
	for range 10000 {
		b, ids := someBody(g), someIds(g)
		switch g.Intn(10) {
		case 0:
			ids = nil
		case 1:
			ids = used(b)
		case 2:
			b = pick(g, samples())
		}
		got := extent.Erase(b, ids)
		if want := erased(b, ids); !slices.Equal(got, want) {
			t.Fatalf("Erase of %v, %v: %v, not %v", b, ids, got, want)
		}
		if !extent.Valid(got) || extent.Size(got) != extent.Size(b) || slices.ContainsFunc(extent.Used(got), func(id int) bool { return slices.Contains(ids, id) }) {
			t.Fatalf("Erase of %v, %v: %v", b, ids, got)
		}
		if again := extent.Erase(got, ids); !extent.Same(again, got) {
			t.Fatalf("Erase of %v, %v, again: %v", got, ids, again)
		}
	}
}

// P8.5 (H7): what is gone becomes one piece, what is beside it as well; holes stay, also for the numbers that stand for no chunk.
func TestEraseJoins(t *testing.T) {
	var all []int
	for id := 1; id < 4096; id++ {
		all = append(all, id)
	}
	b := body(piece(7, 0, 2), piece(8, 0, 1), gone(1), piece(7, 5, 1), hole(1), piece(4095, 0, 1))
	for _, e := range []struct {
		ids  []int
		want []api.Piece
	}{
		{nil, b}, {[]int{9}, b}, {noChunks, b},
		{[]int{7}, body(gone(2), piece(8, 0, 1), gone(2), hole(1), piece(4095, 0, 1))},
		{[]int{8}, body(piece(7, 0, 2), gone(2), piece(7, 5, 1), hole(1), piece(4095, 0, 1))},
		{[]int{8, 7, 8}, body(gone(5), hole(1), piece(4095, 0, 1))},
		{[]int{4095, 4095}, body(piece(7, 0, 2), piece(8, 0, 1), gone(1), piece(7, 5, 1), hole(1), gone(1))},
		{all, body(gone(5), hole(1), gone(1))},
		{append([]int{0, -1, 7}, noChunks...), body(gone(2), piece(8, 0, 1), gone(2), hole(1), piece(4095, 0, 1))},
	} {
		if got := extent.Erase(b, e.ids); !slices.Equal(got, e.want) {
			t.Errorf("Erase of %v: %v", e.ids, got)
		}
	}
	if got := extent.Erase(slices.Repeat(body(piece(7, 0, 1)), most), []int{7}); !slices.Equal(got, body(gone(most))) {
		t.Errorf("Erase of many pieces: %v", got[:min(len(got), 5)])
	}
}

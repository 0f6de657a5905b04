package extent_test

import (
	"bytes"
	"math/rand"
	"slices"
	"testing"

	"burgage/api"
	"burgage/extent"
)

// P8.6, P8.1 (H8): the bytes are those of the chunks, and zeros; with chunks of any lengths, and with some that are there twice.
func TestBytes(t *testing.T) {
	g := rand.New(rand.NewSource(21))
	seen := map[api.Errno]int{}
	for range 20000 {
		b, l := someBody(g), someBlobs(g)
		if g.Intn(2) == 0 {
			b = slices.DeleteFunc(b, func(p api.Piece) bool { return p.Id == api.Gone })
			b = bodyOf(atoms(b))
		}
		got, err := extent.Bytes(b, l)
		if want, wantErr := bytesOf(b, l); !bytes.Equal(got, want) || err != wantErr {
			t.Fatalf("Bytes of %v, %v: %x, %v, not %x, %v", b, l, got, err, want, wantErr)
		}
		seen[err]++
	}
	if seen[api.OK] < 2000 || seen[api.ErrErased] < 2000 || seen[api.ErrNone] < 2000 {
		t.Errorf("the errors were %v", seen)
	}
}

// P8.6 (H8): single cases: exactly as many bytes as are needed, and one less; chunks that are there twice; erased ones before those that are lacking.
func TestBytesOfSome(t *testing.T) {
	blob := func(id int, data string) api.Blob { return api.Blob{Id: id, Data: []byte(data)} }
	for _, e := range []struct {
		b    []api.Piece
		l    []api.Blob
		want string
		err  api.Errno
	}{
		{nil, nil, "", api.OK},
		{nil, []api.Blob{blob(7, "abc")}, "", api.OK},
		{body(hole(3)), nil, "\x00\x00\x00", api.OK},
		{body(hole(3)), []api.Blob{blob(0, "abc")}, "\x00\x00\x00", api.OK},
		{body(gone(1)), []api.Blob{blob(-1, "abc")}, "", api.ErrErased},
		{body(piece(7, 0, 3)), []api.Blob{blob(7, "abc")}, "abc", api.OK},
		{body(piece(7, 0, 3)), []api.Blob{blob(7, "ab")}, "", api.ErrNone},
		{body(piece(7, 1, 3)), []api.Blob{blob(7, "abcd")}, "bcd", api.OK},
		{body(piece(7, 1, 3)), []api.Blob{blob(7, "abc")}, "", api.ErrNone},
		{body(piece(7, 3, 1)), []api.Blob{blob(7, "abc")}, "", api.ErrNone},
		{body(piece(7, 0, 1)), []api.Blob{blob(7, "")}, "", api.ErrNone},
		{body(piece(7, 0, 1)), nil, "", api.ErrNone},
		{body(piece(7, 0, 1)), []api.Blob{blob(8, "abc"), blob(6, "abc")}, "", api.ErrNone},
		{body(piece(7, 0, 2)), []api.Blob{blob(7, "ab"), blob(7, "cd")}, "ab", api.OK},
		{body(piece(7, 0, 2)), []api.Blob{blob(7, "a"), blob(7, "cd")}, "", api.ErrNone},
		{body(piece(7, 0, 1)), []api.Blob{{Id: 7}, blob(7, "cd")}, "", api.ErrNone},
		{body(piece(7, 2, 1), piece(7, 0, 2), hole(2), piece(8, 0, 1), piece(7, 2, 1)), []api.Blob{blob(8, "x"), blob(7, "abc")}, "cab\x00\x00xc", api.OK},
		{body(piece(7, 0, 1), gone(1)), nil, "", api.ErrErased},
		{body(gone(1), piece(7, 0, 1)), nil, "", api.ErrErased},
		{body(piece(7, 0, 1), hole(1), piece(8, 0, 1)), []api.Blob{blob(7, "a")}, "", api.ErrNone},
		{body(piece(1, 0, 1), piece(4095, 0, 1)), []api.Blob{blob(4095, "b"), blob(1, "a")}, "ab", api.OK},
	} {
		if got, err := extent.Bytes(e.b, e.l); string(got) != e.want || err != e.err {
			t.Errorf("Bytes of %v, %v: %q, %v", e.b, e.l, got, err)
		}
	}
}

// P8.6, P8.8 (H8): bodies of 2^20 bytes.
func TestBytesGreat(t *testing.T) {
	g := rand.New(rand.NewSource(22))
	l := full(g, most, 1, 7, 4095)
	for _, b := range great() {
		got, err := extent.Bytes(b, l)
		if want, wantErr := bytesOf(b, l); !bytes.Equal(got, want) || err != wantErr {
			t.Errorf("Bytes of %v: %v", b[:1], err)
		}
	}
	l[1].Data = l[1].Data[:most-1]
	if got, err := extent.Bytes(body(piece(7, most-1, 1)), l); len(got) > 0 || err != api.ErrNone {
		t.Errorf("Bytes with one byte less: %x, %v", got, err)
	}
}

// P8.2 to P8.6: what is done to bodies is done to their bytes: parts, puts and cuts are those of the bytes.
func TestBytesOfChanges(t *testing.T) {
	g := rand.New(rand.NewSource(23))
	ids := []int{1, 2, 7, 8, 4094, 4095}
	l := full(g, 200, ids...)
	for range 300 {
		var b []api.Piece
		var content []byte
		for range 30 {
			off, n, id := g.Intn(len(content)+5), 1+g.Intn(20), pick(g, ids)
			if g.Intn(3) > 0 {
				b, _ = extent.Put(b, off, id, n)
				content = append(content, make([]byte, max(off+n-len(content), 0))...)
				copy(content[off:], l[slices.Index(ids, id)].Data[:n])
			} else {
				b, _ = extent.Cut(b, off)
				content = append(content, make([]byte, max(off-len(content), 0))...)[:off]
			}
			if got, err := extent.Bytes(b, l); !bytes.Equal(got, content) || err != api.OK {
				t.Fatalf("Bytes of %v: %x, %v, not %x", b, got, err, content)
			}
			lo, hi := min(off, len(content)), min(off+n, len(content))
			if got, err := extent.Bytes(extent.Part(b, off, n), l); !bytes.Equal(got, content[lo:hi]) || err != api.OK {
				t.Fatalf("Bytes of the part of %v, %d, %d: %x, %v", b, off, n, got, err)
			}
		}
		if u := extent.Used(b); len(u) > 0 {
			if _, err := extent.Bytes(extent.Erase(b, u[:1]), l); err != api.ErrErased {
				t.Fatalf("Bytes of %v, where %d is erased: %v", b, u[0], err)
			}
		}
	}
}

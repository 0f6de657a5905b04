package extent_test

import (
	"bytes"
	"math/rand"
	"slices"
	"sync"
	"testing"

	"burgage/api"
	"burgage/extent"
)

// answers has the results of all functions for some arguments.
type answers struct {
	valid, same              bool
	size                     int
	part, put, cut, erased   []api.Piece
	used                     []int
	bytes                    []byte
	putErr, cutErr, bytesErr api.Errno
}

// answersOf asks all functions.
func answersOf(b, other []api.Piece, off, id, n int, ids []int, l []api.Blob) answers {
	s := answers{valid: extent.Valid(b), same: extent.Same(b, other), size: extent.Size(b), part: extent.Part(b, off, n), erased: extent.Erase(b, ids), used: extent.Used(b)}
	s.put, s.putErr = extent.Put(b, off, id, n)
	s.cut, s.cutErr = extent.Cut(b, n)
	s.bytes, s.bytesErr = extent.Bytes(b, l)
	return s
}

func (s answers) equal(t answers) bool {
	return s.valid == t.valid && s.same == t.same && s.size == t.size && slices.Equal(s.part, t.part) && slices.Equal(s.put, t.put) && slices.Equal(s.cut, t.cut) && slices.Equal(s.erased, t.erased) &&
		slices.Equal(s.used, t.used) && bytes.Equal(s.bytes, t.bytes) && s.putErr == t.putErr && s.cutErr == t.cutErr && s.bytesErr == t.bytesErr
}

// roomy returns a copy of l with room before and behind it, and all of that memory, in which a stray element shows.
func roomy[T any](l []T, stray T) (part, whole []T) {
	room := slices.Repeat([]T{stray}, 20)
	whole = slices.Concat(room, l, room)
	return whole[20 : 20+len(l)], whole
}

// spoil writes x to all memory of l.
func spoil[T any](l []T, x T) {
	for i := range l[:cap(l)] {
		l[:cap(l)][i] = x
	}
}

// H10 (P8.1), and P2 of the document: no argument is modified, nor the memory about it, the same arguments have the same results, and these are new memory.
func TestArguments(t *testing.T) {
	g := rand.New(rand.NewSource(31))
	stray := piece(5, 5, 5)
	for range 3000 {
		b, ids, l := someBody(g), someIds(g), full(g, 40, 1, 2, 7, 8, 4094, 4095)
		if g.Intn(2) == 0 {
			l = someBlobs(g)
		}
		off, id, n := g.Intn(20), pick(g, []int{1, 7, 4095, 4096}), g.Intn(20)
		want := answersOf(b, b, off, id, n, ids, l)
		list, wholeList := roomy(b, stray)
		numbers, wholeNumbers := roomy(ids, 77)
		var wholeData [][]byte
		var keptData [][]byte
		blobs, wholeBlobs := roomy(l, api.Blob{Id: 77})
		for i, x := range blobs {
			part, whole := roomy(x.Data, 0xaa)
			blobs[i].Data = part
			wholeData, keptData = append(wholeData, whole), append(keptData, bytes.Clone(whole))
		}
		keptList, keptNumbers, keptBlobs := slices.Clone(wholeList), slices.Clone(wholeNumbers), slices.Clone(wholeBlobs)
		got := answersOf(list, list, off, id, n, numbers, blobs)
		if !got.equal(want) {
			t.Fatalf("%v, %d, %d, %d: %v, and again %v", b, off, id, n, want, got)
		}
		for _, p := range [][]api.Piece{got.part, got.put, got.cut, got.erased} {
			spoil(p, piece(6, 6, 6))
		}
		spoil(got.used, 78)
		spoil(got.bytes, 0x55)
		if !slices.Equal(wholeList, keptList) || !slices.Equal(wholeNumbers, keptNumbers) || !slices.EqualFunc(wholeData, keptData, bytes.Equal) {
			t.Fatalf("%v, %d, %d, %d: an argument has changed", b, off, id, n)
		}
		for i, x := range wholeBlobs {
			if y := keptBlobs[i]; x.Id != y.Id || len(x.Data) != len(y.Data) || cap(x.Data) != cap(y.Data) || cap(x.Data) > 0 && &x.Data[:1][0] != &y.Data[:1][0] {
				t.Fatalf("%v, %d, %d, %d: the chunk %d has changed", b, off, id, n, i)
			}
		}
		if again := answersOf(list, list, off, id, n, numbers, blobs); !again.equal(want) {
			t.Fatalf("%v, %d, %d, %d: what was done with results matters", b, off, id, n)
		}
	}
}

// P1 of the document: with an error, the other result is empty; all bodies that are returned are valid; and all numbers and lists are accepted.
func TestAllValues(t *testing.T) {
	g := rand.New(rand.NewSource(32))
	numbers := append(slices.Clone(noChunks), 0, 1, 2, 3, 7, 8, 20, 4095, most, most+1)
	for range 20000 {
		b := someBody(g)
		s := answersOf(b, someBody(g), pick(g, numbers), pick(g, numbers), pick(g, numbers), append(someIds(g), pick(g, numbers)), someBlobs(g))
		if s.putErr != api.OK && len(s.put) > 0 || s.cutErr != api.OK && len(s.cut) > 0 || s.bytesErr != api.OK && len(s.bytes) > 0 {
			t.Fatalf("%v: %v", b, s)
		}
		for _, p := range [][]api.Piece{s.part, s.put, s.cut, s.erased} {
			if !extent.Valid(p) {
				t.Fatalf("%v: %v is not valid", b, p)
			}
		}
	}
}

// P1 of the document: no function fails to end, or panics, with bodies that are not valid.
func TestBodiesThatAreNotValid(t *testing.T) {
	g := rand.New(rand.NewSource(33))
	numbers := append(slices.Clone(noChunks), 0, 1, 2, 7, 20, 4095, most, most+1)
	list := notValid()
	for range 3000 {
		var b []api.Piece
		for range 1 + g.Intn(6) {
			b = append(b, piece(pick(g, numbers), pick(g, numbers), pick(g, numbers)), somePiece(g))
		}
		list = append(list, b)
	}
	l := full(g, 40, 1, 2, 7, 8, 4094, 4095)
	for _, b := range list {
		for range 3 {
			s := answersOf(b, b, pick(g, numbers), pick(g, numbers), pick(g, numbers), []int{pick(g, numbers), 7}, l)
			if s.valid != valid(b) || !s.same || !s.valid && (s.putErr != api.ErrBody || s.cutErr != api.ErrBody) {
				t.Fatalf("%v: %v", b[:min(len(b), 5)], s)
			}
		}
	}
}

// P2 of the document: what is asked at the same time does not matter.
func TestAtOnce(t *testing.T) {
	g := rand.New(rand.NewSource(34))
	b, l := body(hole(3), piece(7, 0, 9), gone(2), piece(8, 4, 5)), full(g, 40, 7, 8)
	wrong := make([]bool, 8)
	var wait sync.WaitGroup
	for i := range wrong {
		want := answersOf(b, b[:i%4], i, 7, 2*i, []int{8, i}, l)
		wait.Go(func() {
			for range 300 {
				wrong[i] = wrong[i] || !answersOf(b, b[:i%4], i, 7, 2*i, []int{8, i}, l).equal(want)
			}
		})
	}
	wait.Wait()
	if slices.Contains(wrong, true) {
		t.Error("there were other results")
	}
}

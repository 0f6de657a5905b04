package keys_test

import (
	"bytes"
	"math"
	"math/rand"
	"slices"
	"sync"
	"testing"

	"burgage/api"
	"burgage/keys"
)

// answers has the results of all functions for some arguments.
type answers struct {
	made, less, read api.Keys
	key              api.Sum
	keyErr, readErr  api.Errno
	left             int
	lost             []int
	valid, known     bool
	bytes            []byte
}

// answersOf asks all functions; b are bytes of any kind.
func answersOf(k api.Keys, others []api.Keys, id int, ids []int, b []byte) answers {
	s := answers{made: keys.New(api.Sum{byte(id)}), less: keys.Destroy(k, id), left: keys.Left(k), lost: keys.Lost(k, ids), valid: keys.Valid(k), known: keys.Known(others, id), bytes: keys.Bytes(k)}
	s.key, s.keyErr = keys.Key(k, id)
	s.read, s.readErr = keys.Parse(b)
	return s
}

func (s answers) equal(t answers) bool {
	return same(s.made, t.made) && same(s.less, t.less) && same(s.read, t.read) && s.key == t.key && s.keyErr == t.keyErr && s.readErr == t.readErr &&
		s.left == t.left && slices.Equal(s.lost, t.lost) && s.valid == t.valid && s.known == t.known && bytes.Equal(s.bytes, t.bytes)
}

// roomy returns a copy of l with room behind it, and all of that memory, in which a stray element shows.
func roomy[T any](l []T, stray T) (part, whole []T) {
	whole = append(slices.Clone(l), slices.Repeat([]T{stray}, 40)...)
	return whole[:len(l)], whole
}

// spoil writes x to all memory of l.
func spoil[T any](l []T, x T) {
	for i := range l[:cap(l)] {
		l[:cap(l)][i] = x
	}
}

// F6 (P6.1), and P2 of the document: no argument is modified, nor the memory behind it, the same arguments have the same results, and these are new memory.
func TestArguments(t *testing.T) {
	g := rand.New(rand.NewSource(13))
	stray := at(7, 7)
	for _, k := range samples() {
		for _, id := range append(numbersFor(g, k)[:6], -1, 4096) {
			ids, b := append(someIds(g, 9), id, id), bytesOf(pick(g, samples()))
			cover, wholeCover := roomy(k.Cover, stray)
			list, wholeList := roomy(ids, 77)
			text, wholeText := roomy(b, 77)
			others, wholeOthers := roomy([]api.Keys{{}, {Cover: cover}, k}, of(stray))
			keptCover, keptList, keptText := slices.Clone(wholeCover), slices.Clone(wholeList), slices.Clone(wholeText)
			got := answersOf(api.Keys{Cover: cover}, others, id, list, text)
			want := answersOf(k, []api.Keys{{}, k, k}, id, ids, b)
			if !got.equal(want) {
				t.Fatalf("%v, %d: %v, and again %v", k, id, got, want)
			}
			for _, c := range [][]api.Cover{got.made.Cover, got.less.Cover, got.read.Cover} {
				spoil(c, stray)
			}
			spoil(got.lost, 78)
			spoil(got.bytes, 78)
			if !slices.Equal(wholeCover, keptCover) || !slices.Equal(wholeList, keptList) || !bytes.Equal(wholeText, keptText) {
				t.Fatalf("%v, %d: an argument has changed", k, id)
			}
			for i, x := range wholeOthers {
				if !same(x, append([]api.Keys{{}, k, k}, slices.Repeat([]api.Keys{of(stray)}, 40)...)[i]) {
					t.Fatalf("%v, %d: the copy %d has changed", k, id, i)
				}
			}
			if again := answersOf(api.Keys{Cover: cover}, others, id, list, text); !again.equal(want) {
				t.Fatalf("%v, %d: what was done with results matters", k, id)
			}
		}
	}
}

// P1 of the document: with an error, the other result is the zero value; and all numbers, lists and bytes are accepted.
func TestAllValues(t *testing.T) {
	g := rand.New(rand.NewSource(14))
	for range 2000 {
		b := make([]byte, g.Intn(4)*35+g.Intn(2)*g.Intn(35))
		g.Read(b)
		k, id := pick(g, samples()), pick(g, append(numbersFor(g, api.Keys{}), noChunks...))
		s := answersOf(k, []api.Keys{k, k}, id, []int{id, g.Int(), -g.Int(), id}, b)
		if s.keyErr != api.OK && s.key != (api.Sum{}) || s.readErr != api.OK && len(s.read.Cover) > 0 {
			t.Fatalf("%v, %d, %x: %v", k, id, b, s)
		}
		if want, wantErr := parsed(b); !same(s.read, want) || s.readErr != wantErr {
			t.Fatalf("%x: %v, %v", b, s.read, s.readErr)
		}
	}
}

// P1 of the document: no function fails to end, or panics, with keys that are not valid.
func TestKeysThatAreNotValid(t *testing.T) {
	g := rand.New(rand.NewSource(15))
	odd := append(slices.Clone(noChunks), -3, 13, 63, 64, 65, 1, 0)
	list := notValid()
	for range 500 {
		var k api.Keys
		for range 1 + g.Intn(6) {
			k.Cover = append(k.Cover, at(pick(g, odd), pick(g, odd)), at(g.Intn(30)-10, g.Intn(3)))
		}
		list = append(list, k)
	}
	for _, k := range list {
		for _, id := range []int{0, 1, 2048, 4095, -1, 4096, math.MaxInt, math.MinInt, g.Intn(4096)} {
			answersOf(k, []api.Keys{k, k}, id, []int{id, 5}, bytesOf(k))
		}
	}
}

// P2 of the document: what is asked at the same time does not matter.
func TestAtOnce(t *testing.T) {
	k, b := destroy(keys.New(counting()), 7, 2048, 4095), bytesOf(row(11, 3, 9))
	wrong := make([]bool, 8)
	var wait sync.WaitGroup
	for i := range wrong {
		want := answersOf(k, []api.Keys{{}, k}, 100*i, []int{7, i}, b)
		wait.Go(func() {
			for range 300 {
				wrong[i] = wrong[i] || !answersOf(k, []api.Keys{{}, k}, 100*i, []int{7, i}, b).equal(want)
			}
		})
	}
	wait.Wait()
	if slices.Contains(wrong, true) {
		t.Error("there were other results")
	}
}

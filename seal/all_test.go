package seal_test

import (
	"bytes"
	"math/rand"
	"sync"
	"testing"

	"burgage/api"
	"burgage/seal"
)

// answers has the results of all functions for some arguments.
type answers struct {
	sealed, opened, again string
	openErr, againErr     api.Errno
	size                  int
}

// answersOf asks all functions.
func answersOf(old, key api.Sum, id int, b, c []byte) answers {
	s := answers{sealed: string(seal.Seal(old, id, b)), size: seal.Size(c)}
	x, err := seal.Open(old, id, c)
	s.opened, s.openErr = string(x), err
	x, err = seal.Rekey(old, key, id, c)
	s.again, s.againErr = string(x), err
	return s
}

// roomy returns a copy of b with room before and behind it, and all of that memory, in which a stray byte shows.
func roomy(b []byte) (part, whole []byte) {
	whole = append(append(full(40, 0xaa), b...), full(100, 0xaa)...)
	return whole[40 : 40+len(b)], whole
}

// E5 (P5.1), and P2 of the document: no argument is modified, nor the memory beside it, and the same arguments have the same results.
func TestArguments(t *testing.T) {
	g := rand.New(rand.NewSource(23))
	for _, n := range sizes {
		for _, id := range numbers {
			old, key := pick(g, keys()), pick(g, keys())
			content := someBytes(g, n)
			for _, c := range [][]byte{sealed(old, id, content), content, sealed(key, id, content)} {
				b, wholeB := roomy(content)
				d, wholeD := roomy(c)
				keptB, keptD := bytes.Clone(wholeB), bytes.Clone(wholeD)
				got := answersOf(old, key, id, b, d)
				if !bytes.Equal(wholeB, keptB) || !bytes.Equal(wholeD, keptD) {
					t.Fatalf("bytes beside %d and %d bytes, or among them, have changed", len(b), len(c))
				}
				if again := answersOf(old, key, id, content, c); got != again {
					t.Fatalf("%x and %x have other results again", content, c)
				}
			}
		}
	}
}

// P2 of the document: what is asked afterwards does not change a result.
func TestResultsStay(t *testing.T) {
	g := rand.New(rand.NewSource(24))
	for _, n := range sizes {
		key, other, b := someKey(g), someKey(g), someBytes(g, n)
		c := seal.Seal(key, n, b)
		x, _ := seal.Open(key, n, c)
		r, _ := seal.Rekey(key, other, n, c)
		keptC, keptX, keptR := bytes.Clone(c), bytes.Clone(x), bytes.Clone(r)
		for _, id := range []int{0, n, n + 1, -1} {
			d := seal.Seal(other, id, someBytes(g, n))
			seal.Open(other, id, d)
			seal.Rekey(other, key, id, d)
			seal.Open(other, id, c)
		}
		if !bytes.Equal(c, keptC) || !bytes.Equal(x, keptX) || !bytes.Equal(r, keptR) {
			t.Errorf("results for %d bytes have changed", n)
		}
	}
}

// P1 of the document: with an error there are no bytes; and all functions end, without a panic, also for more bytes than are specified.
func TestAllValues(t *testing.T) {
	g := rand.New(rand.NewSource(25))
	for range 2000 {
		c := someBytes(g, g.Intn(100))
		s := answersOf(pick(g, keys()), someKey(g), pick(g, numbers), c, c)
		if s.opened != "" || s.again != "" || s.openErr != api.ErrSeal || s.againErr != api.ErrSeal {
			t.Fatalf("%x: %q and %q, %v and %v", c, s.opened, s.again, s.openErr, s.againErr)
		}
	}
	for _, n := range []int{most + 1, most + 31, most + 33, 1<<24 + 5} {
		b := someBytes(g, n)
		answersOf(api.Sum{}, api.Sum{1}, n, b, b)
		answersOf(api.Sum{}, api.Sum{1}, n, b, tagged(api.Sum{}, n, b))
	}
}

// P2 of the document: what is asked at the same time does not matter.
func TestAtOnce(t *testing.T) {
	g := rand.New(rand.NewSource(26))
	wrong := make([]bool, 8)
	var wait sync.WaitGroup
	for i := range wrong {
		old, key, b := someKey(g), someKey(g), someBytes(g, 50+30*i)
		c := sealed(old, i, b)
		want := answersOf(old, key, i, b, c)
		wait.Go(func() {
			for range 200 {
				wrong[i] = wrong[i] || answersOf(old, key, i, b, c) != want
			}
		})
	}
	wait.Wait()
	for i, is := range wrong {
		if is {
			t.Errorf("worker %d had other results", i)
		}
	}
}

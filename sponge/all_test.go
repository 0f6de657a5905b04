package sponge_test

import (
	"bytes"
	"math"
	"math/rand"
	"slices"
	"strings"
	"sync"
	"testing"

	"burgage/api"
	"burgage/sponge"
)

// answers has the results of all functions for some arguments.
type answers struct {
	sum, of      api.Sum
	stream, text string
	parsed       api.Sum
	err          api.Errno
}

// answersOf asks all functions.
func answersOf(b []byte, parts [][]byte, id int, s string) answers {
	sum, of := sponge.Sum(b), sponge.Of(byte(id), parts)
	parsed, err := sponge.Parse(s)
	return answers{sum, of, string(sponge.Stream(sum, id, 100)), sponge.Print(of), parsed, err}
}

// roomy returns a copy of b with room before and behind it, and all of that memory, in which a stray byte shows.
func roomy(b []byte) (part, whole []byte) {
	whole = slices.Concat(full(150, 0xaa), b, full(300, 0xaa))
	return whole[150 : 150+len(b)], whole
}

// C5, and P2 of the document: no argument is modified, nor the memory beside it, and the same arguments have the same results.
func TestArguments(t *testing.T) {
	g := rand.New(rand.NewSource(14))
	for i, n := range slices.Concat(edges, odd) {
		n = min(max(n, 0), 1<<16)
		b, wholeB := roomy(someBytes(g, n))
		p, wholeP := roomy(someBytes(g, i))
		// The list of parts has room behind it, too.
		parts := [][]byte{p, b, nil, p[:0], p, b, p, b}[:5]
		kept := slices.Clone(parts[:cap(parts)])
		keptB, keptP := bytes.Clone(wholeB), bytes.Clone(wholeP)
		s := sponge.Print(someSum(g))[:64-i%2]
		got := answersOf(b, parts, i, s)
		if !bytes.Equal(wholeB, keptB) || !bytes.Equal(wholeP, keptP) {
			t.Fatalf("bytes beside %d bytes, or among them, have changed", n)
		}
		for j, l := range parts[:cap(parts)] {
			k := kept[j]
			if len(l) != len(k) || cap(l) != cap(k) || (l == nil) != (k == nil) || cap(l) > 0 && &l[:1][0] != &k[:1][0] {
				t.Fatalf("the part %d has become another one", j)
			}
		}
		again := answersOf(bytes.Clone(b), [][]byte{bytes.Clone(p), bytes.Clone(b), {}, nil, bytes.Clone(p)}, i, strings.Clone(s))
		if got != again {
			t.Fatalf("%d bytes: %v, and again %v", n, got, again)
		}
	}
}

// P2 of the document: what is done with a stream does not matter for another one.
func TestStreamIsNew(t *testing.T) {
	for _, n := range []int{0, 1, 31, 32, 33, 1000} {
		a, b := sponge.Stream(api.Sum{1}, 5, n), sponge.Stream(api.Sum{1}, 5, n)
		kept := bytes.Clone(b)
		a = a[:cap(a)]
		for i := range a {
			a[i] ^= 0xff
		}
		if !bytes.Equal(b, kept) || !bytes.Equal(sponge.Stream(api.Sum{1}, 5, n), kept) {
			t.Errorf("a stream of %d bytes has changed", n)
		}
	}
}

// P2 of the document: what is asked at the same time does not matter.
func TestAtOnce(t *testing.T) {
	g := rand.New(rand.NewSource(15))
	var all [][]byte
	var want []answers
	for i := range 8 {
		b := someBytes(g, 100+40*i)
		all = append(all, b)
		want = append(want, answersOf(b, [][]byte{b, b[:i]}, i, sponge.Print(hash(b))))
	}
	wrong := make([]int, len(all))
	var wait sync.WaitGroup
	for i, b := range all {
		wait.Go(func() {
			for range 300 {
				if answersOf(b, [][]byte{b, b[:i]}, i, sponge.Print(sponge.Sum(b))) != want[i] {
					wrong[i]++
				}
			}
		})
	}
	wait.Wait()
	if i := slices.IndexFunc(wrong, func(n int) bool { return n > 0 }); i >= 0 {
		t.Errorf("%d bytes had other results %d times", len(all[i]), wrong[i])
	}
}

// P1 of the document: all functions end, without a panic, for all values; how long a stream of more than 2^20 bytes is, is not specified.
func TestAllValues(t *testing.T) {
	g := rand.New(rand.NewSource(16))
	for _, n := range odd {
		if got := sponge.Stream(someSum(g), n, n); n <= 1<<20 && len(got) != max(n, 0) {
			t.Errorf("Stream of %d bytes: %d bytes", n, len(got))
		}
	}
	for _, n := range []int{1<<20 + 1, 1<<20 + 32, 1 << 40, math.MaxInt - 31} {
		sponge.Stream(api.Sum{}, 7, n)
	}
	sponge.Sum(nil)
	sponge.Of(0, nil)
	sponge.Of(0, [][]byte{nil, {}, nil})
}

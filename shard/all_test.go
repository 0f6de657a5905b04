package shard_test

import (
	"bytes"
	"math"
	"math/rand"
	"slices"
	"sync"
	"testing"

	"burgage/api"
	"burgage/shard"
)

// answers has the results of all functions for some arguments.
type answers struct {
	mul, inv                    byte
	made                        [][]byte
	read, mended                []byte
	madeErr, readErr, mendedErr api.Errno
	together                    bool
}

// answersOf asks all functions.
func answersOf(b []byte, l [][]byte, k, n, size, i int) answers {
	s := answers{mul: shard.Mul(byte(k), byte(n)), inv: shard.Inv(byte(i)), together: shard.Check(l, k)}
	s.made, s.madeErr = shard.Encode(b, k, n)
	s.read, s.readErr = shard.Decode(l, k, size)
	s.mended, s.mendedErr = shard.Rebuild(l, k, i)
	return s
}

func (s answers) equal(t answers) bool {
	return s.mul == t.mul && s.inv == t.inv && equal(s.made, t.made) && bytes.Equal(s.read, t.read) && bytes.Equal(s.mended, t.mended) &&
		s.madeErr == t.madeErr && s.readErr == t.readErr && s.mendedErr == t.mendedErr && s.together == t.together
}

// roomy returns a copy of b with room before and behind it, and all of that memory, in which a stray byte shows.
func roomy(b []byte) (part, whole []byte) {
	stray := bytes.Repeat([]byte{0xaa}, 40)
	whole = slices.Concat(stray, b, stray)
	return whole[40 : 40+len(b)], whole
}

// roomyList returns a copy of l in one memory, with room behind the list and between its elements, and all of that memory.
func roomyList(l [][]byte) (part [][]byte, whole []byte) {
	for _, s := range append(slices.Clone(l), nil) {
		_, w := roomy(s)
		whole = append(whole, w...)
	}
	part = make([][]byte, len(l), len(l)+20)
	at := 40
	for i, s := range l {
		part[i] = whole[at : at+len(s)]
		at += len(s) + 80
	}
	return part, whole
}

// spoil changes all memory of l.
func spoil(l ...[]byte) {
	for _, s := range l {
		for i := range s[:cap(s)] {
			s[:cap(s)][i] ^= 0x55
		}
	}
}

// G6 (P7.1), and P2 of the document: no argument is modified, nor the memory about it; the same arguments have the same results, and these are new memory.
func TestArguments(t *testing.T) {
	g := rand.New(rand.NewSource(41))
	for range 2000 {
		p := pick(g, pairs())
		k, n := p[0], p[1]
		b := someBytes(g, g.Intn(40))
		l, _ := shard.Encode(b, k, n)
		i := g.Intn(n)
		if g.Intn(2) == 0 {
			l[i] = nil
		}
		want := answersOf(b, l, k, n, len(b), i)
		content, wholeContent := roomy(b)
		list, wholeList := roomyList(l)
		keptContent, keptList := bytes.Clone(wholeContent), bytes.Clone(wholeList)
		keptParts := slices.Clone(list[:cap(list)])
		got := answersOf(content, list, k, n, len(b), i)
		if !got.equal(want) {
			t.Fatalf("%x, %x, %d, %d: %v, and again %v", b, l, k, n, want, got)
		}
		spoil(got.made...)
		spoil(got.read, got.mended)
		if !bytes.Equal(wholeContent, keptContent) || !bytes.Equal(wholeList, keptList) {
			t.Fatalf("%x, %x, %d, %d: bytes have changed", b, l, k, n)
		}
		for j, s := range list[:cap(list)] {
			x := keptParts[j]
			if len(s) != len(x) || cap(s) != cap(x) || (s == nil) != (x == nil) || cap(s) > 0 && &s[:1][0] != &x[:1][0] {
				t.Fatalf("%x, %x, %d, %d: the shard %d has become another one", b, l, k, n, j)
			}
		}
		if again := answersOf(content, list, k, n, len(b), i); !again.equal(want) {
			t.Fatalf("%x, %x, %d, %d: what was done with results matters", b, l, k, n)
		}
	}
}

// P2 of the document: what is done with one shard, and behind it, does not matter for the others, nor for the list.
func TestShardsAreNew(t *testing.T) {
	g := rand.New(rand.NewSource(42))
	for _, p := range pairs() {
		for _, size := range []int{1, p[0], 5*p[0] - 1} {
			b := someBytes(g, size)
			for i := range p[1] {
				l, _ := shard.Encode(b, p[0], p[1])
				kept := clone(l)
				spoil(l[i])
				kept[i] = l[i]
				if !equal(l, kept) {
					t.Fatalf("%x, %d, %d: with the shard %d others have changed", b, p[0], p[1], i)
				}
			}
		}
	}
}

// P1 of the document: with an error the other result is empty; and all functions end, without a panic, for all numbers and lists.
func TestAllValues(t *testing.T) {
	g := rand.New(rand.NewSource(43))
	numbers := append(slices.Clone(odd), 0, 1, 2, 3, 5, 8, 11, 12, 20, 1000)
	for range 20000 {
		l := someShards(g)
		k, n, size, i := pick(g, numbers), pick(g, numbers), pick(g, numbers), pick(g, numbers)
		s := answersOf(someBytes(g, g.Intn(30)), l, k, n, size, i)
		if s.madeErr != api.OK && len(s.made) > 0 || s.readErr != api.OK && len(s.read) > 0 || s.mendedErr != api.OK && len(s.mended) > 0 {
			t.Fatalf("%x, %d, %d, %d, %d: %v", l, k, n, size, i, s)
		}
		if want, wantErr := decoded(l, k, size); !bytes.Equal(s.read, want) || s.readErr != wantErr {
			t.Fatalf("Decode of %x, %d, %d: %x, %v", l, k, size, s.read, s.readErr)
		}
		if want, wantErr := rebuilt(l, k, i); !bytes.Equal(s.mended, want) || s.mendedErr != wantErr {
			t.Fatalf("Rebuild of %x, %d, %d: %x, %v", l, k, i, s.mended, s.mendedErr)
		}
		if s.together != belong(l, k) {
			t.Fatalf("Check of %x, %d: %v", l, k, s.together)
		}
	}
	for _, x := range []int{0, math.MinInt, math.MaxInt} {
		answersOf(nil, nil, x, x, x, x)
	}
}

// P2 of the document: what is asked at the same time does not matter.
func TestAtOnce(t *testing.T) {
	g := rand.New(rand.NewSource(44))
	b := someBytes(g, 200)
	l, _ := shard.Encode(b, 4, 9)
	l[1] = nil
	wrong := make([]bool, 8)
	var wait sync.WaitGroup
	for i := range wrong {
		want := answersOf(b, l, 4, 5+i%4, 200, i)
		wait.Go(func() {
			for range 300 {
				wrong[i] = wrong[i] || !answersOf(b, l, 4, 5+i%4, 200, i).equal(want)
			}
		})
	}
	wait.Wait()
	if slices.Contains(wrong, true) {
		t.Error("there were other results")
	}
}

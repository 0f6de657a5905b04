package sponge_test

import (
	"bytes"
	"crypto/sha3"
	"math/rand"
	"slices"
	"testing"

	"burgage/api"
	"burgage/sponge"
)

// P3.1 (C2): the examples of the chapter, and the hash of a tag alone.
func TestOfExamples(t *testing.T) {
	x, none := []byte("x"), []byte{}
	for _, e := range []struct {
		tag   byte
		parts [][]byte
		want  string
	}{
		{65, [][]byte{x, none}, "3aeb037bd9d3f5596b8f1746e58edc40e1eb2f9402c8dea093a078ed2d74539f"},
		{65, [][]byte{none, x}, "98f77ad9b60a4f5319972460355720311d9143bcdf6158f94d9bf952d8d819f5"},
		{65, [][]byte{x, nil}, "3aeb037bd9d3f5596b8f1746e58edc40e1eb2f9402c8dea093a078ed2d74539f"},
		{65, nil, sponge.Print(sponge.Sum([]byte("A")))},
		{65, [][]byte{}, sponge.Print(sponge.Sum([]byte("A")))},
		{65, [][]byte{nil}, sponge.Print(sponge.Sum([]byte("A\x00\x00\x00\x00\x00\x00\x00\x00")))},
		{0, nil, sponge.Print(sponge.Sum([]byte{0}))},
		{255, [][]byte{[]byte("xyz")}, sponge.Print(sponge.Sum([]byte("\xff\x00\x00\x00\x00\x00\x00\x00\x03xyz")))},
	} {
		if got := sponge.Print(sponge.Of(e.tag, e.parts)); got != e.want {
			t.Errorf("Of the tag %d and %q: %s", e.tag, e.parts, got)
		}
	}
}

// P3.1 (C2): all tags, with as many parts as make the bytes end about the ends of blocks.
func TestOf(t *testing.T) {
	g := rand.New(rand.NewSource(5))
	for tag := range 256 {
		for k := range 6 {
			var parts [][]byte
			for range k {
				parts = append(parts, someBytes(g, g.Intn(60)))
			}
			if got := sponge.Of(byte(tag), parts); got != hash(bytesOf(byte(tag), parts...)) {
				t.Fatalf("Of the tag %d and %q: %s", tag, parts, sponge.Print(got))
			}
		}
	}
	for n := range 420 {
		b := someBytes(g, n)
		for _, parts := range [][][]byte{{b}, {b, nil}, {nil, b}, {b[:n/3], b[n/3:]}, {b, b}} {
			if got := sponge.Of('T', parts); got != hash(bytesOf('T', parts...)) {
				t.Fatalf("Of a part of %d bytes: %s", n, sponge.Print(got))
			}
		}
	}
}

// P3.1 (C2): parts whose lengths need one byte, two, three and four, and many parts.
func TestOfManyBytes(t *testing.T) {
	g := rand.New(rand.NewSource(6))
	for _, n := range []int{254, 255, 256, 257, 65535, 65536, 65537, 1<<20 + 1, 1<<24 - 1, 1<<24 + 258} {
		b := someBytes(g, n)
		if got := sponge.Of(1, [][]byte{b, b[:1]}); got != sha3.Sum256(bytesOf(1, b, b[:1])) {
			t.Errorf("Of a part of %d bytes: %s", n, sponge.Print(got))
		}
	}
	for _, k := range []int{16, 17, 255, 256, 257, 1000, 70000} {
		parts := slices.Repeat([][]byte{[]byte("ab"), nil}, k)
		if got := sponge.Of(2, parts); got != sha3.Sum256(bytesOf(2, parts...)) {
			t.Errorf("Of %d parts: %s", 2*k, sponge.Print(got))
		}
	}
}

// P3.2: no two of many lists of parts have one hash, though their bytes are the same ones, one after the other, or look like lengths.
func TestOfOtherParts(t *testing.T) {
	zeros, one := full(8, 0), eight(1)
	texts := [][]byte{nil, {0}, {'A'}, {'x'}, []byte("xA"), []byte("Ax"), zeros, full(16, 0), one, append(bytes.Clone(one), 'x'), append([]byte("x"), zeros...), append(append([]byte("x"), one...), 'x')}
	lists := [][][]byte{nil}
	for last, k := lists, 0; k < 3; k++ {
		var next [][][]byte
		for _, parts := range last {
			for _, x := range texts {
				next = append(next, append(slices.Clone(parts), x))
			}
		}
		lists, last = append(lists, next...), next
	}
	for k := 4; k < 300; k++ {
		lists = append(lists, make([][]byte, k))
	}
	seen := map[api.Sum]bool{}
	for _, tag := range []byte{0, 1, 65, 83, 255} {
		for _, parts := range lists {
			s := sponge.Of(tag, parts)
			if seen[s] {
				t.Fatalf("the tag %d and %q have the hash of others", tag, parts)
			}
			seen[s] = true
		}
	}
}

// P3.2: the bytes of which the hash of parts is the hash are those from which the tag and the parts can be read.
func TestOfBytes(t *testing.T) {
	g := rand.New(rand.NewSource(7))
	for range 3000 {
		tag := byte(g.Intn(256))
		var parts [][]byte
		for range g.Intn(8) {
			parts = append(parts, someBytes(g, g.Intn(40)*g.Intn(2)))
		}
		l := bytesOf(tag, parts...)
		tagAgain, again := readParts(l)
		if tagAgain != tag || !slices.EqualFunc(again, parts, bytes.Equal) {
			t.Fatalf("of the tag %d and %q, %d and %q are read", tag, parts, tagAgain, again)
		}
		if got := sponge.Of(tag, parts); got != sponge.Sum(l) {
			t.Fatalf("Of the tag %d and %q: %s", tag, parts, sponge.Print(got))
		}
	}
}

// P3.5: the parts may stand anywhere, and overlap.
func TestOfAnywhere(t *testing.T) {
	g := rand.New(rand.NewSource(8))
	b := someBytes(g, 500)
	for range 500 {
		i, j := g.Intn(400), g.Intn(400)
		overlap := [][]byte{b[i:], b[j : j+g.Intn(100)], b[i:], b[:i]}
		var apart [][]byte
		for _, p := range overlap {
			apart = append(apart, bytes.Clone(p))
		}
		if sponge.Of(9, overlap) != sponge.Of(9, apart) {
			t.Fatalf("parts from %d and %d on have another hash where they overlap", i, j)
		}
	}
}

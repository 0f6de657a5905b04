package sponge_test

import (
	"bytes"
	"crypto/sha3"
	"math/rand"
	"strings"
	"testing"

	"burgage/api"
	"burgage/sponge"
)

// P3.1 (C1): the examples of the chapter, and others that are known.
func TestSumExamples(t *testing.T) {
	for _, x := range []struct{ b, want string }{
		{"", "a7ffc6f8bf1ed76651c14756a061d662f580ff4de43b49fa82d80a4b80f8434a"},
		{"abc", "3a985da74fe225b2045c172d6bd390bd855f086e3e9d525b46bfe24511431532"},
		{"abcdbcdecdefdefgefghfghighijhijkijkljklmklmnlmnomnopnopq", "41c0dba2a9d6240849100376a8235e2c82e1b9998a999e21db32dd97496d3376"},
		{strings.Repeat("\xa3", 200), "79f38adec5c20307a98ef76e8324afbfd46cfd81b22e3973c65fa1bd9de31787"},
		{strings.Repeat("a", 1000000), "5c8875ae474a3634ba4fd55ec85bffd661f32aca75c6d699d0cdcb6c115891c1"},
	} {
		if got := sponge.Print(sponge.Sum([]byte(x.b))); got != x.want {
			t.Errorf("Sum of %.20q: %s", x.b, got)
		}
	}
}

// P3.1 (C1): as many bytes as fill no block, one, and several, and all numbers about the ends of blocks.
func TestSum(t *testing.T) {
	g := rand.New(rand.NewSource(1))
	lengths := append([]int{5000, 40000}, edges...)
	for n := range 300 {
		lengths = append(lengths, n)
	}
	for _, n := range lengths {
		for _, b := range [][]byte{full(n, 0), full(n, 6), full(n, 128), full(n, 134), full(n, 255), someBytes(g, n)} {
			got := sponge.Sum(b)
			if got != hash(b) || got != api.Sum(sha3.Sum256(b)) {
				t.Errorf("Sum of %d bytes: %s", n, sponge.Print(got))
			}
		}
	}
}

// P3.1 (C1): many bytes.
func TestSumOfManyBytes(t *testing.T) {
	g := rand.New(rand.NewSource(2))
	for _, n := range []int{65535, 65536, 1<<20 - 1, 1 << 20, 1<<20 + 1, 7711 * 136, 1<<24 + 5} {
		b := someBytes(g, n)
		if got := sponge.Sum(b); got != sha3.Sum256(b) {
			t.Errorf("Sum of %d bytes: %s", n, sponge.Print(got))
		}
	}
}

// P3.5: each bit counts, and so do bytes 0, and those that stand behind the bytes of a block, at the end.
func TestSumOfOtherBytes(t *testing.T) {
	g := rand.New(rand.NewSource(3))
	for _, n := range []int{0, 1, 134, 135, 136, 137, 271, 272} {
		b := someBytes(g, n)
		seen := map[api.Sum]bool{sponge.Sum(b): true}
		add := func(l []byte) {
			s := sponge.Sum(l)
			if seen[s] {
				t.Fatalf("%d bytes, and %d others have one hash", n, len(l))
			}
			seen[s] = true
		}
		for i := range 8 * n {
			l := bytes.Clone(b)
			l[i/8] ^= 1 << (i % 8)
			add(l)
		}
		for i := range n {
			add(b[:i])
		}
		for _, end := range []byte{0, 6, 128, 134} {
			for k := 1; k < 300; k++ {
				add(append(bytes.Clone(b), full(k, end)...))
			}
			if end != 6 {
				for k := range 300 {
					add(append(append(bytes.Clone(b), 6), full(k+1, end)...))
				}
			}
		}
	}
}

// P3.5: the bytes may stand anywhere, with anything before and behind them, and were hashed after anything else.
func TestSumAnywhere(t *testing.T) {
	g := rand.New(rand.NewSource(4))
	for _, n := range edges {
		b := someBytes(g, n)
		want := sponge.Sum(b)
		for before := range 20 {
			for _, behind := range []int{0, 1, 2, 5, 136, 300} {
				whole := someBytes(g, before+n+behind)
				copy(whole[before:], b)
				part := whole[before : before+n]
				for _, l := range [][]byte{part, part[:n:n], []byte(string(part))} {
					if sponge.Sum(l) != want {
						t.Fatalf("%d bytes, with %d before and %d behind them, have another hash", n, before, behind)
					}
				}
			}
		}
	}
	none := sponge.Sum(nil)
	for _, l := range [][]byte{{}, make([]byte, 0, 200), full(300, 7)[:0], full(300, 7)[300:]} {
		if sponge.Sum(l) != none {
			t.Errorf("no bytes (%d of %d) have another hash", len(l), cap(l))
		}
	}
}

package keys_test

import (
	"bytes"
	"math"
	"math/rand"
	"slices"
	"testing"

	"burgage/api"
	"burgage/keys"
)

// P6.1 (F1): keys that are valid, and keys that are not: a Depth or an At out of its range, elements out of order, and elements that stand for the same chunk.
func TestValid(t *testing.T) {
	for _, k := range samples() {
		if !keys.Valid(k) {
			t.Errorf("%v is not valid", k)
		}
	}
	for _, k := range notValid() {
		if keys.Valid(k) {
			t.Errorf("%v is valid", k)
		}
	}
}

// notValid returns keys that are not valid.
func notValid() []api.Keys {
	l := []api.Keys{
		of(at(0, 0), at(0, 0)), of(at(12, 5), at(12, 5)), of(at(0, 0), at(12, 4095)), of(at(12, 0), at(0, 0)), of(at(1, 1), at(1, 0)), of(at(12, 1), at(12, 0)),
		of(at(1, 0), at(12, 2047)), of(at(1, 0), at(2, 1)), of(at(2, 0), at(1, 0)), of(at(2, 1), at(1, 0)), of(at(12, 2048), at(1, 1)), of(at(1, 1), at(12, 0)),
		of(at(12, 0), at(12, 2), at(12, 1)), of(at(12, 0), at(12, 1), at(11, 0)), of(at(1, 0), at(1, 1), at(1, 1)), of(at(1, 0), at(1, 1), at(1, 2)),
		of(at(2, 0), at(2, 2), at(2, 1), at(2, 3)), of(at(-1, 0), at(1, 1)), of(at(1, 0), at(13, 4096)), of(append(row(12, 0, 4096).Cover, at(12, 0))...),
	}
	for _, depth := range []int{-1, -2, -11, -12, -13, -64, 13, 14, 24, 63, 64, 76, 255, 256, math.MaxInt, math.MinInt, math.MinInt + 12, math.MaxUint32 + 1, math.MaxUint32 + 13} {
		for _, i := range []int{0, 1, 4095, -1} {
			l = append(l, of(at(depth, i)), of(at(1, 0), at(depth, i)), of(at(depth, i), at(1, 1)))
		}
	}
	for depth := range 13 {
		n := power(depth)
		for _, i := range []int{-1, -n, n, n + 1, 2 * n, 4096, 65535, 65536, math.MaxInt, math.MinInt, 1 << 52, 1 << 32, -1 << 32, 1 << (52 + depth)} {
			if i < 0 || i >= n {
				l = append(l, of(at(depth, i)), of(at(depth, 0), at(depth, i)), of(at(depth, i), at(12, 4095)))
			}
		}
	}
	return l
}

// P6.1 (F1): all pairs of places of few depths, and triples of them.
func TestValidPairs(t *testing.T) {
	var l []api.Cover
	for depth := -1; depth <= 4; depth++ {
		for i := -1; i <= power(max(depth, 0)); i++ {
			l = append(l, at(depth, i))
		}
	}
	for _, depth := range []int{10, 11, 12, 13} {
		for _, i := range []int{0, 1, 2, 3, power(depth) - 4, power(depth) - 2, power(depth) - 1, power(depth)} {
			l = append(l, at(depth, i))
		}
	}
	g := rand.New(rand.NewSource(11))
	for _, a := range l {
		if keys.Valid(of(a)) != valid(of(a)) {
			t.Fatalf("%v", a)
		}
		for _, b := range l {
			for _, k := range []api.Keys{of(a, b), of(a, b, pick(g, l)), of(a, pick(g, l), b)} {
				if got := keys.Valid(k); got != valid(k) {
					t.Fatalf("%v is valid: %v", places(k), got)
				}
			}
		}
	}
}

// P6.1 (F5) and P6.7: the bytes of keys of all kinds, from which these come back.
func TestBytes(t *testing.T) {
	seen := map[string]api.Keys{}
	for _, k := range samples() {
		b := keys.Bytes(k)
		if !bytes.Equal(b, bytesOf(k)) || len(b) != 35*len(k.Cover) {
			t.Errorf("the bytes of %v: %x", k, b)
		}
		if got, err := keys.Parse(b); !same(got, k) || err != api.OK {
			t.Errorf("%x: %v, %v", b, got, err)
		}
		if other, is := seen[string(b)]; is && !same(other, k) {
			t.Errorf("%v and %v have the same bytes", k, other)
		}
		seen[string(b)] = k
	}
	k := destroy(keys.New(counting()), 5, 4000, 2047)
	if got, err := keys.Parse(keys.Bytes(k)); !same(got, k) || err != api.OK {
		t.Errorf("%v: %v, %v", k, got, err)
	}
}

// P6.1 (F5): examples, with the more significant byte of At first.
func TestBytesExamples(t *testing.T) {
	seed := counting()
	for _, e := range []struct {
		k     api.Keys
		begin []byte
	}{
		{keys.New(seed), []byte{0, 0, 0}},
		{of(api.Cover{Depth: 12, At: 0x0fff, Key: seed}), []byte{12, 15, 255}},
		{of(api.Cover{Depth: 12, At: 0x0102, Key: seed}), []byte{12, 1, 2}},
		{of(api.Cover{Depth: 9, At: 0x0100, Key: seed}), []byte{9, 1, 0}},
		{of(api.Cover{Depth: 8, At: 0xff, Key: seed}), []byte{8, 0, 255}},
	} {
		want := append(e.begin, seed[:]...)
		if got := keys.Bytes(e.k); !bytes.Equal(got, want) {
			t.Errorf("the bytes of %v: %x", e.k, got)
		}
		if got, err := keys.Parse(want); !same(got, e.k) || err != api.OK {
			t.Errorf("%x: %v, %v", want, got, err)
		}
	}
	for _, none := range [][]byte{nil, {}} {
		if got, err := keys.Parse(none); len(got.Cover) > 0 || err != api.OK {
			t.Errorf("no bytes: %v, %v", got, err)
		}
	}
	if got := keys.Bytes(api.Keys{}); len(got) > 0 {
		t.Errorf("the bytes of nothing: %x", got)
	}
}

// P6.1 (F5): bytes of which one is missing, or there is one more, and of all other lengths.
func TestParseLengths(t *testing.T) {
	whole := keys.Bytes(row(12, 0, 5))
	for n := range len(whole) + 1 {
		got, err := keys.Parse(whole[:n])
		if n%35 == 0 && (!same(got, row(12, 0, n/35)) || err != api.OK) || n%35 != 0 && (len(got.Cover) > 0 || err != api.ErrForm) {
			t.Errorf("%d bytes: %v, %v", n, got, err)
		}
	}
	for _, k := range samples() {
		b := keys.Bytes(k)
		wrong := [][]byte{append(b[:len(b):len(b)], 0), append(b[:len(b):len(b)], 12), append([]byte{0}, b...)}
		if len(b) > 0 {
			wrong = append(wrong, b[1:], b[:len(b)-1])
		}
		for _, x := range wrong {
			if got, err := keys.Parse(x); len(got.Cover) > 0 || err != api.ErrForm {
				t.Fatalf("%x: %v, %v", x, got, err)
			}
		}
	}
}

// P6.1 (F5): bytes of elements that are not valid: all Depths, each with At about the end of its range; and elements out of order.
func TestParseRefuses(t *testing.T) {
	for depth := range 256 {
		for _, i := range []int{0, 1, power(depth%16) - 1, power(depth % 16), 255, 256, 4095, 4096, 32768, 65535} {
			k := of(at(depth, i))
			b := bytesOf(k)
			want, wantErr := parsed(b)
			if got, err := keys.Parse(b); !same(got, want) || err != wantErr {
				t.Errorf("%x: %v, %v", b, got, err)
			}
		}
	}
	for _, k := range notValid() {
		b := bytesOf(k)
		want, wantErr := parsed(b) // some of these Depths and Ats are valid modulo 256 and 65536
		if got, err := keys.Parse(b); !same(got, want) || err != wantErr {
			t.Errorf("%x: %v, %v", b, got, err)
		}
	}
	for _, k := range samples() {
		if len(k.Cover) < 2 {
			continue
		}
		l := slices.Clone(k.Cover)
		slices.Reverse(l)
		for _, wrong := range []api.Keys{of(l...), of(append(k.Cover[:len(k.Cover):len(k.Cover)], k.Cover[0])...), of(append(k.Cover[:1:1], k.Cover...)...)} {
			if got, err := keys.Parse(bytesOf(wrong)); len(got.Cover) > 0 || err != api.ErrForm {
				t.Errorf("%v: %v, %v", wrong, got, err)
			}
		}
	}
}

// P6.7: what is parsed has the bytes that were parsed, and bytes that are no bytes of valid keys are refused; bytes in which few are changed.
func TestParseChanged(t *testing.T) {
	g := rand.New(rand.NewSource(12))
	accepted := 0
	for range 3000 {
		b := bytesOf(pick(g, samples()))
		if len(b) > 35*20 {
			b = b[:35*20]
		}
		for range g.Intn(3) {
			if len(b) > 0 {
				b[g.Intn(len(b)/35)*35+g.Intn(5)] ^= byte(g.Intn(16))
			}
		}
		want, wantErr := parsed(b)
		got, err := keys.Parse(b)
		if !same(got, want) || err != wantErr || err == api.OK && !bytes.Equal(keys.Bytes(got), b) {
			t.Fatalf("%x: %v, %v", b, got, err)
		}
		if err == api.OK {
			accepted++
		}
	}
	if accepted < 100 || accepted > 2900 {
		t.Errorf("%d of 3000 were accepted", accepted)
	}
}

// P6.1 (F5), and P1 of the document: very many bytes.
func TestParseManyBytes(t *testing.T) {
	all := keys.Bytes(row(12, 0, 4096))
	if got, err := keys.Parse(all); len(got.Cover) != 4096 || err != api.OK {
		t.Errorf("4096 elements: %d, %v", len(got.Cover), err)
	}
	for _, b := range [][]byte{append(all, all[:35]...), append(all, all...), make([]byte, 35<<20), make([]byte, 35<<20+1)} {
		if got, err := keys.Parse(b); len(got.Cover) > 0 || err != api.ErrForm {
			t.Errorf("%d bytes: %d elements, %v", len(b), len(got.Cover), err)
		}
	}
}

package shard_test

import (
	"bytes"
	"math/rand"
	"slices"
	"testing"

	"burgage/api"
	"burgage/shard"
)

// examples are shards that were found by another program, but for the first ones, which are the chapter's.
var examples = []struct {
	b      string
	k      int
	shards string
}{
	{"\x01\x02\x03", 2, "0102 0300 0506"},
	{"abc", 1, "616263 616263 616263"},
	{"burgage", 3, "627572 676167 650000 601415 58f6eb 5de2fe"},
	{"\xf0\xf1\xf2\xf3\xf4\xf5\xf6\xf7\xf8\xf9\xfa\xfb\xfc\xfd\xfe\xff", 5, "f0f1f2f3 f4f5f6f7 f8f9fafb fcfdfeff 00000000 04040404 08080808 0c0c0c0c 0c1b2235"},
	{"\xff\xff\xff\xff\xff\xff\xff", 2, "ffffffff ffffff00 ffffff1c ffffffe3 ffffff24 ffffffdb ffffffc7 ffffff38 ffffff54 ffffffab ffffffb7 ffffff48"},
	{"\xff", 12, "ff 00 00 00 00 00 00 00 00 00 00 00"},
	{"The key of a chunk", 6, "546865 206b65 79206f 662061 206368 756e6b fe3b5c c03551 dd9a4d 04e57d c83257 7a4e69"},
	{"The key of a chunk", 11, "5468 6520 6b65 7920 6f66 2061 2063 6875 6e6b 0000 0000 eff3"},
	{"\x80\x40\x20\x10\x08\x04\x02\x01", 4, "8040 2010 0804 0201 1e0f 65bc afd9 7e3f 8442 fdf0 9a4d 49aa"},
	{"", 2, "  "},
	{"", 1, ""},
}

// P7.1 (G2 to G5): the examples are made, are decoded, are rebuilt, and belong together.
func TestExamples(t *testing.T) {
	for _, e := range examples {
		want := fromHex(e.shards)
		for n := e.k; n <= len(want); n++ {
			if got, err := shard.Encode([]byte(e.b), e.k, n); !equal(got, want[:n]) || err != api.OK {
				t.Errorf("Encode of %q, %d, %d: %x, %v", e.b, e.k, n, got, err)
			}
			if got, err := shard.Decode(want[:n], e.k, len(e.b)); string(got) != e.b || err != api.OK {
				t.Errorf("Decode of %s, %d: %q, %v", e.shards, e.k, got, err)
			}
			if !shard.Check(want[:n], e.k) {
				t.Errorf("Check of %s, %d", e.shards, e.k)
			}
		}
		for i, s := range want {
			if len(want) == e.k {
				break
			}
			if got, err := shard.Rebuild(want, e.k, i); !bytes.Equal(got, s) || err != api.OK {
				t.Errorf("Rebuild of %s, %d, %d: %x, %v", e.shards, e.k, i, got, err)
			}
		}
	}
	if got, err := shard.Decode([][]byte{nil, {3, 0}, {5, 6}}, 2, 3); string(got) != "\x01\x02\x03" || err != api.OK {
		t.Errorf("Decode without the first one: %x, %v", got, err)
	}
	if got, err := shard.Encode([]byte{1}, 3, 2); len(got) > 0 || err != api.ErrArg {
		t.Errorf("Encode with k = 3, n = 2: %x, %v", got, err)
	}
	if got, err := shard.Decode([][]byte{{1}}, 2, 1); len(got) > 0 || err != api.ErrArg {
		t.Errorf("Decode of one shard with k = 2: %x, %v", got, err)
	}
}

// P7.1 (G2): for all k and n, no bytes, numbers of bytes that k divides and that it does not divide; where k = n no shard but the bytes, and where k = 1 all shards are equal.
func TestEncode(t *testing.T) {
	g := rand.New(rand.NewSource(1))
	for _, p := range pairs() {
		k, n := p[0], p[1]
		for _, size := range sizesFor(k) {
			for _, b := range [][]byte{someBytes(g, size), bytes.Repeat([]byte{0}, size), bytes.Repeat([]byte{255}, size)} {
				got, err := shard.Encode(b, k, n)
				if want := encoded(b, k, n); !equal(got, want) || err != api.OK {
					t.Fatalf("Encode of %x, %d, %d: %x, not %x, %v", b, k, n, got, want, err)
				}
			}
		}
	}
}

// P7.1 (G2): each byte at each place of a shard, which shows that all bytes are factors.
func TestEncodeAllBytes(t *testing.T) {
	for _, k := range []int{1, 2, 3, 7, 11, 12} {
		for i := range k {
			for x := range 256 {
				b := make([]byte, k)
				b[i] = byte(x)
				got, err := shard.Encode(b, k, 12)
				if want := encoded(b, k, 12); !equal(got, want) || err != api.OK {
					t.Fatalf("Encode of %x, %d: %x, not %x, %v", b, k, got, want, err)
				}
			}
		}
	}
}

// P7.3 (G2): the first k shards are the bytes, with as many zeros behind them as are missing, and all n shards have the same length.
func TestEncodeFirst(t *testing.T) {
	g := rand.New(rand.NewSource(2))
	for _, p := range pairs() {
		k, n := p[0], p[1]
		for size := range 40 {
			b := bytes.ReplaceAll(someBytes(g, size), []byte{0}, []byte{1})
			l, err := shard.Encode(b, k, n)
			if len(l) != n || err != api.OK {
				t.Fatalf("Encode of %x, %d, %d: %x, %v", b, k, n, l, err)
			}
			all := slices.Concat(l[:k]...)
			if !bytes.Equal(all[:size], b) || len(bytes.Trim(all[size:], "\x00")) > 0 || len(all)-size >= k {
				t.Fatalf("Encode of %x, %d, %d: %x", b, k, n, l)
			}
			for _, s := range l {
				if len(s) != lengthOf(size, k) {
					t.Fatalf("Encode of %x, %d, %d: %x", b, k, n, l)
				}
			}
		}
	}
}

// P7.3 (G2, G3): many bytes, of which those with one index make those with this index; all come back.
func TestEncodeManyBytes(t *testing.T) {
	g := rand.New(rand.NewSource(3))
	for _, p := range [][3]int{{1, 2, 1 << 16}, {3, 5, 1 << 20}, {7, 12, 1<<20 + 1}, {12, 12, 1<<20 - 1}, {11, 12, 100003}} {
		k, n, size := p[0], p[1], p[2]
		b := someBytes(g, size)
		l, err := shard.Encode(b, k, n)
		if len(l) != n || err != api.OK {
			t.Fatalf("%d bytes, %d, %d: %d shards, %v", size, k, n, len(l), err)
		}
		each := lengthOf(size, k)
		for _, j := range []int{0, 1, each / 2, each - 2, each - 1, g.Intn(each), g.Intn(each)} {
			column, some := []byte{}, [][]byte{}
			for i, s := range l {
				some = append(some, s[j:j+1])
				if at := i*each + j; i < k && at < size {
					column = append(column, b[at])
				}
			}
			if !equal(some, encoded(append(column, make([]byte, k-len(column))...), k, n)) {
				t.Errorf("%d bytes, %d, %d: the bytes %x at %d", size, k, n, some, j)
			}
		}
		for i := range n - k {
			l[i] = nil
		}
		if got, err := shard.Decode(l, k, size); !bytes.Equal(got, b) || err != api.OK {
			t.Errorf("%d bytes, %d, %d: they do not come back, %v", size, k, n, err)
		}
	}
}

// P7.6: the shards of the sum of two lists of bytes are the sums of their shards; and those of zeros are zeros.
func TestEncodeSums(t *testing.T) {
	g := rand.New(rand.NewSource(4))
	sum := func(a, b []byte) []byte {
		c := bytes.Clone(a)
		for i, x := range b {
			c[i] ^= x
		}
		return c
	}
	for _, p := range pairs() {
		k, n := p[0], p[1]
		for _, size := range append(sizesFor(k), 100) {
			a, b := someBytes(g, size), someBytes(g, size)
			la, _ := shard.Encode(a, k, n)
			lb, _ := shard.Encode(b, k, n)
			lc, _ := shard.Encode(sum(a, b), k, n)
			for i := range n {
				if !bytes.Equal(lc[i], sum(la[i], lb[i])) {
					t.Fatalf("the shard %d of %x and %x, %d, %d: %x, %x, and of the sum %x", i, a, b, k, n, la[i], lb[i], lc[i])
				}
			}
			zeros, _ := shard.Encode(make([]byte, size), k, n)
			if len(bytes.Trim(slices.Concat(zeros...), "\x00")) > 0 {
				t.Fatalf("shards of %d zeros, %d, %d: %x", size, k, n, zeros)
			}
		}
	}
}

// P7.8 (G2): k and n out of their ranges, negative and very great ones, and k greater than n.
func TestEncodeRefuses(t *testing.T) {
	numbers := append(slices.Clone(odd), 0, 1, 2, 3, 11, 12)
	for _, b := range [][]byte{nil, {1}, []byte("some bytes, more than twelve")} {
		for _, k := range numbers {
			for _, n := range numbers {
				got, err := shard.Encode(b, k, n)
				if 1 <= k && k <= n && n <= 12 {
					if len(got) != n || err != api.OK {
						t.Fatalf("Encode of %q, %d, %d: %x, %v", b, k, n, got, err)
					}
				} else if len(got) > 0 || err != api.ErrArg {
					t.Fatalf("Encode of %q, %d, %d: %x, %v", b, k, n, got, err)
				}
			}
		}
	}
}

package shard_test

import (
	"bytes"
	"math"
	"math/rand"
	"slices"
	"testing"

	"burgage/api"
	"burgage/shard"
)

// P7.3 (G3): any k shards give the bytes again, for all k and n: those that are there are among the first ones, the last ones, and between.
func TestDecodeAnyShards(t *testing.T) {
	g := rand.New(rand.NewSource(11))
	for _, p := range pairs() {
		k, n := p[0], p[1]
		for _, size := range []int{1, k, 2*k + 1} {
			b := someBytes(g, size)
			l, _ := shard.Encode(b, k, n)
			for _, set := range sets(n, k) {
				if got, err := shard.Decode(only(l, set), k, size); !bytes.Equal(got, b) || err != api.OK {
					t.Fatalf("Decode of %x, %d, %d: %x, not %x, %v", only(l, set), k, size, got, b, err)
				}
			}
		}
	}
}

// P7.3 (G3): shards are decoded also where more than k are there, and where one that is missing has too few bytes or too many.
func TestDecodeMoreShards(t *testing.T) {
	g := rand.New(rand.NewSource(12))
	for range 3000 {
		p := pick(g, pairs())
		k, n := p[0], p[1]
		b := someBytes(g, g.Intn(30))
		l, _ := shard.Encode(b, k, n)
		for _, i := range g.Perm(n)[:g.Intn(n-k+1)] {
			l[i] = someBytes(g, len(l[i])+1+g.Intn(3))
			if s := len(l[i]) - 4; s > 0 && g.Intn(2) == 0 {
				l[i] = l[i][:s]
			}
		}
		if got, err := shard.Decode(l, k, len(b)); !bytes.Equal(got, b) || err != api.OK {
			t.Fatalf("Decode of %x, %d, %d: %x, not %x, %v", l, k, len(b), got, b, err)
		}
	}
}

// P7.1 (G3): of the shards that are there, the first k count, and no other ones: others may be changed, whatever they are.
func TestDecodeFirstOnes(t *testing.T) {
	const content = "nine byte"
	l, _ := shard.Encode([]byte(content), 3, 6)
	for i := range l {
		for j := range 3 {
			changed := clone(l)
			changed[i][j] ^= 5
			got, err := shard.Decode(changed, 3, 9)
			if want := i >= 3; (string(got) == content) != want || err != api.OK {
				t.Errorf("Decode of %x: %q, %v", changed, got, err)
			}
			changed[1] = nil
			got, err = shard.Decode(changed, 3, 9)
			if want := i == 1 || i >= 4; (string(got) == content) != want || err != api.OK {
				t.Errorf("Decode of %x: %q, %v", changed, got, err)
			}
		}
	}
}

// P7.1 (G3): lists of any shards, with the sizes for which some are there.
func TestDecode(t *testing.T) {
	g := rand.New(rand.NewSource(13))
	seen := map[api.Errno]int{}
	for range 20000 {
		l := someShards(g)
		k := 1 + g.Intn(max(len(l), 1))
		size := g.Intn(40)
		if len(l) > 0 && g.Intn(3) > 0 {
			size = max(k*len(pick(g, l))-g.Intn(k), 0)
		}
		if g.Intn(10) == 0 {
			k = g.Intn(15) - 1
		}
		got, err := shard.Decode(l, k, size)
		if want, wantErr := decoded(l, k, size); !bytes.Equal(got, want) || err != wantErr {
			t.Fatalf("Decode of %x, %d, %d: %x, %v, not %x, %v", l, k, size, got, err, want, wantErr)
		}
		seen[err]++
	}
	if len(seen) != 3 || seen[api.OK] < 2000 || seen[api.ErrArg] < 500 || seen[api.ErrShards] < 2000 {
		t.Errorf("the results were %v", seen)
	}
}

// P7.1 (G3): all sizes for shards of a length: only those for which it is the length of a shard are decoded, and to as many bytes.
func TestDecodeSizes(t *testing.T) {
	g := rand.New(rand.NewSource(14))
	for k := 1; k <= 12; k++ {
		for each := range 4 {
			all := someBytes(g, k*each)
			l, _ := shard.Encode(all, k, 12)
			for _, there := range [][][]byte{l, only(l, 1<<12-1<<(12-k)), only(l, pick(g, sets(12, k)))} {
				for size := range 60 {
					got, err := shard.Decode(there, k, size)
					switch is := lengthOf(size, k) == each; {
					case is && (!bytes.Equal(got, all[:size]) || err != api.OK):
						t.Fatalf("Decode of %x, %d, %d: %x, not %x, %v", there, k, size, got, all[:size], err)
					case !is && size > 0 && (len(got) > 0 || err != api.ErrShards):
						t.Fatalf("Decode of %x, %d, %d: %x, %v", there, k, size, got, err)
					}
				}
			}
		}
	}
}

// P7.7 (G3): with less than k shards, nothing is decoded, for all k and n, whichever shards are there.
func TestDecodeFew(t *testing.T) {
	g := rand.New(rand.NewSource(15))
	for _, p := range pairs() {
		k, n := p[0], p[1]
		for _, size := range []int{1, k, 3*k - 1} {
			b := someBytes(g, size)
			l, _ := shard.Encode(b, k, n)
			for _, set := range append(sets(n, k-1), 0) {
				if got, err := shard.Decode(only(l, set), k, size); len(got) > 0 || err != api.ErrShards {
					t.Fatalf("Decode of %x, %d, %d: %x, %v", only(l, set), k, size, got, err)
				}
			}
		}
	}
}

// P7.7 (G3): no bytes are decoded from shards without bytes, also from those that are missing, but not from fewer than k, and not from longer ones.
func TestDecodeNoBytes(t *testing.T) {
	for _, p := range pairs() {
		k, n := p[0], p[1]
		made, err := shard.Encode(nil, k, n)
		if len(made) != n || err != api.OK {
			t.Fatalf("Encode of no bytes, %d, %d: %x, %v", k, n, made, err)
		}
		for _, l := range [][][]byte{made, make([][]byte, n), slices.Repeat([][]byte{{}}, n)} {
			if got, err := shard.Decode(l, k, 0); len(got) > 0 || err != api.OK {
				t.Errorf("Decode of %d shards without bytes, %d: %x, %v", n, k, got, err)
			}
			if got, err := shard.Decode(l, k, 1); len(got) > 0 || err != api.ErrShards {
				t.Errorf("Decode of a byte from %d shards without bytes, %d: %x, %v", n, k, got, err)
			}
			l = clone(l)
			for i := range n {
				l[n-1-i] = []byte{7}
				want := api.OK
				if n-1-i < k {
					want = api.ErrShards
				}
				if got, err := shard.Decode(l, k, 0); len(got) > 0 || err != want {
					t.Errorf("Decode of no bytes from %x, %d: %x, %v", l, k, got, err)
				}
			}
		}
	}
}

// P7.1 (G3): where shards have different lengths, those count that have the right one, also if only one is longer than all others.
func TestDecodeLengths(t *testing.T) {
	for _, e := range []struct {
		l       [][]byte
		k, size int
		want    string
		err     api.Errno
	}{
		{[][]byte{{1}, {1, 2}, {1}, {1}}, 2, 4, "", api.ErrShards},
		{[][]byte{{1}, {1, 2}, {1}, {1}}, 2, 3, "", api.ErrShards},
		{[][]byte{{1}, {1, 2}, {1}, {1}}, 2, 2, "\x01\x01", api.OK},
		{[][]byte{{1}, {1, 2}, {1}, {1}}, 2, 1, "\x01", api.OK},
		{[][]byte{{1}, {1, 2}, {1}, {1}}, 1, 2, "\x01\x02", api.OK},
		{[][]byte{{1}, {1, 2}, {2}, {3}}, 1, 1, "\x01", api.OK},
		{[][]byte{{1, 2, 3}, {1}, {2, 2}, {2}}, 2, 2, "\x8e\x01", api.OK},
		{[][]byte{nil, {1, 2}, nil, {1, 2}}, 3, 4, "", api.ErrShards},
		{[][]byte{{9}, {1, 2}, {8}, {1, 2}}, 2, 3, "\x01\x02\x01", api.OK},
		{[][]byte{{}, {5}, {}, {}}, 3, 0, "", api.OK},
		{[][]byte{{}, {5}, {}, {}}, 4, 0, "", api.ErrShards},
	} {
		if got, err := shard.Decode(e.l, e.k, e.size); string(got) != e.want || err != e.err {
			t.Errorf("Decode of %x, %d, %d: %q, %v", e.l, e.k, e.size, got, err)
		}
	}
}

// P7.8 (G3): lists that are not proper for k, those of no shards and of more than 12 among them, and negative sizes; what is out of range comes before what is missing.
func TestDecodeRefuses(t *testing.T) {
	b := []byte("sixteen bytes, k")
	refused := func(l [][]byte, k, size int) {
		t.Helper()
		if got, err := shard.Decode(l, k, size); len(got) > 0 || err != api.ErrArg {
			t.Errorf("Decode of %x, %d, %d: %x, %v", l, k, size, got, err)
		}
	}
	for n := range 13 {
		var l [][]byte
		if n > 0 {
			l, _ = shard.Encode(b, 1, n)
		}
		for _, k := range append(slices.Clone(odd), 0, n+1) {
			for _, size := range []int{0, 1, 16, 17, -1, math.MaxInt, math.MinInt} {
				refused(l, k, size)
				refused(make([][]byte, n), k, size)
			}
		}
		for k := 1; k <= n; k++ {
			for _, size := range odd {
				if size < 0 {
					refused(l, k, size)
					refused(make([][]byte, n), k, size)
				}
			}
		}
	}
	for _, n := range []int{13, 14, 24, 255, 256, 257, 268, 1000} {
		for k := range n + 2 {
			refused(slices.Repeat([][]byte{b}, n), k, 16*k)
			refused(make([][]byte, n), k, 0)
			refused(make([][]byte, n), k, 5)
		}
	}
}

// P7.8, P7.7 (G3): very great sizes are in their range, but no shards are so long.
func TestDecodeGreatSizes(t *testing.T) {
	for _, p := range pairs() {
		l, _ := shard.Encode([]byte("some bytes"), p[0], p[1])
		for _, size := range []int{1000, 1 << 31, 1 << 32, 1<<32 + 10, 1<<62 + 10, math.MaxInt - 12, math.MaxInt - 11, math.MaxInt - 1, math.MaxInt} {
			for _, l := range [][][]byte{l, make([][]byte, p[1])} {
				if got, err := shard.Decode(l, p[0], size); len(got) > 0 || err != api.ErrShards {
					t.Errorf("Decode of %x, %d, %d: %x, %v", l, p[0], size, got, err)
				}
			}
		}
	}
}

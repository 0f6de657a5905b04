package shard_test

import (
	"bytes"
	"math/rand"
	"slices"
	"testing"

	"burgage/api"
	"burgage/shard"
)

// P7.4 (G4): each shard is rebuilt, as it was, from any k others, for all k and n, whether it is missing, there, or another one.
func TestRebuildFromAny(t *testing.T) {
	g := rand.New(rand.NewSource(21))
	for _, p := range pairs() {
		k, n := p[0], p[1]
		l, _ := shard.Encode(someBytes(g, 2*k-g.Intn(2)), k, n)
		for _, set := range sets(n, k) {
			for i, want := range l {
				if set>>i&1 == 1 {
					continue
				}
				from := only(l, set)
				for _, own := range [][]byte{nil, want, {1}, someBytes(g, len(want)), someBytes(g, len(want)+5)} {
					from[i] = own
					if got, err := shard.Rebuild(from, k, i); !bytes.Equal(got, want) || err != api.OK {
						t.Fatalf("Rebuild of %x, %d, %d: %x, not %x, %v", from, k, i, got, want, err)
					}
				}
			}
		}
	}
}

// P7.4 (G4): several shards that are lost are rebuilt one after the other, and then all belong together.
func TestRebuildSeveral(t *testing.T) {
	g := rand.New(rand.NewSource(22))
	for range 2000 {
		p := pick(g, pairs())
		k, n := p[0], p[1]
		l, _ := shard.Encode(someBytes(g, 1+g.Intn(40)), k, n)
		left := clone(l)
		lost := g.Perm(n)[:n-k]
		for _, i := range lost {
			left[i] = nil
		}
		for _, i := range lost {
			s, err := shard.Rebuild(left, k, i)
			if err != api.OK {
				t.Fatalf("Rebuild of %x, %d, %d: %v", left, k, i, err)
			}
			left[i] = s
		}
		if !equal(left, l) || !shard.Check(left, k) {
			t.Fatalf("%x was rebuilt, not %x", left, l)
		}
	}
}

// P7.1 (G4): lists of any shards, of which some are as long as the longest one.
func TestRebuild(t *testing.T) {
	g := rand.New(rand.NewSource(23))
	seen := map[api.Errno]int{}
	for range 20000 {
		l := someShards(g)
		k, i := 1+g.Intn(max(len(l), 1)), g.Intn(max(len(l), 1))
		if g.Intn(10) == 0 {
			k = g.Intn(15) - 1
		}
		if g.Intn(10) == 0 {
			i = g.Intn(15) - 1
		}
		got, err := shard.Rebuild(l, k, i)
		if want, wantErr := rebuilt(l, k, i); !bytes.Equal(got, want) || err != wantErr {
			t.Fatalf("Rebuild of %x, %d, %d: %x, %v, not %x, %v", l, k, i, got, err, want, wantErr)
		}
		seen[err]++
	}
	if len(seen) != 3 || seen[api.OK] < 2000 || seen[api.ErrArg] < 500 || seen[api.ErrShards] < 2000 {
		t.Errorf("the results were %v", seen)
	}
}

// P7.1 (G4): shards whose lengths differ, one longer than all others among them: those are there that are as long as the longest one but that which is rebuilt.
func TestRebuildLengths(t *testing.T) {
	for _, e := range []struct {
		l    [][]byte
		k, i int
		want []byte
		err  api.Errno
	}{
		{[][]byte{{1}, {1, 2}, {1}, {1}}, 1, 0, []byte{1, 2}, api.OK},
		{[][]byte{{1}, {1, 2}, {1}, {1}}, 1, 3, []byte{1, 2}, api.OK},
		{[][]byte{{1}, {1, 2}, {1}, {1}}, 1, 1, []byte{1}, api.OK},
		{[][]byte{{1}, {1, 2}, {1}, {1}}, 2, 0, nil, api.ErrShards},
		{[][]byte{{1}, {1, 2}, {1}, {1}}, 2, 2, nil, api.ErrShards},
		{[][]byte{{4}, {1, 2}, {4}, {4}}, 2, 1, []byte{4}, api.OK},
		{[][]byte{{4}, {1, 2}, {4}, {4}}, 3, 1, []byte{4}, api.OK},
		{[][]byte{{4}, {1, 2}, {4}, {4}}, 4, 1, nil, api.ErrShards},
		{[][]byte{{7, 8, 9}, {1, 2}, {4}, {1, 2}}, 2, 0, []byte{1, 2}, api.OK},
		{[][]byte{{7, 8, 9}, {1, 2}, {4}, {1, 2}}, 2, 2, nil, api.ErrShards},
		{[][]byte{{7, 8, 9}, {1, 2}, {4}, {1, 2}}, 1, 2, []byte{7, 8, 9}, api.OK},
		{[][]byte{{1, 2}, {3, 0}, nil}, 2, 2, []byte{5, 6}, api.OK},
		{[][]byte{nil, {3, 0}, {5, 6}}, 2, 0, []byte{1, 2}, api.OK},
		{[][]byte{{1, 2}, {3, 0}, {5, 6}}, 3, 0, nil, api.ErrShards},
	} {
		if got, err := shard.Rebuild(e.l, e.k, e.i); !bytes.Equal(got, e.want) || err != e.err {
			t.Errorf("Rebuild of %x, %d, %d: %x, %v", e.l, e.k, e.i, got, err)
		}
	}
}

// P7.1 (G4): of the others that are there, the first k count, and no other ones.
func TestRebuildFirstOnes(t *testing.T) {
	g := rand.New(rand.NewSource(24))
	for range 3000 {
		p := pick(g, pairs())
		k, n := p[0], p[1]
		l, _ := shard.Encode(someBytes(g, 3*k), k, n)
		i, j := g.Intn(n), g.Intn(n)
		l[j] = someBytes(g, 3)
		want, wantErr := rebuilt(l, k, i)
		if got, err := shard.Rebuild(l, k, i); !bytes.Equal(got, want) || err != wantErr {
			t.Fatalf("Rebuild of %x, %d, %d: %x, not %x, %v", l, k, i, got, want, err)
		}
	}
}

// P7.4, P7.7 (G4): with less than k others nothing is rebuilt; also where all shards are there, and k is their number.
func TestRebuildFew(t *testing.T) {
	g := rand.New(rand.NewSource(25))
	for _, p := range pairs() {
		k, n := p[0], p[1]
		l, _ := shard.Encode(someBytes(g, 2*k), k, n)
		for i := range l {
			for _, set := range sets(n, k-1) {
				// Where no other is there, all are as long as the longest one, which has no bytes: the next test has that.
				from := only(l, set|1<<i)
				others := set &^ (1 << i)
				if got, err := shard.Rebuild(from, k, i); others != 0 && (len(got) > 0 || err != api.ErrShards) {
					t.Fatalf("Rebuild of %x, %d, %d: %x, %v", from, k, i, got, err)
				}
			}
			if got, err := shard.Rebuild(l, n, i); len(got) > 0 || err != api.ErrShards {
				t.Errorf("Rebuild of %x, %d, %d: %x, %v", l, n, i, got, err)
			}
		}
	}
}

// P7.1 (G4): from shards without bytes, one without bytes is rebuilt, whatever it is itself, if there are k others.
func TestRebuildNoBytes(t *testing.T) {
	for _, p := range pairs() {
		k, n := p[0], p[1]
		for i := range n {
			for _, own := range [][]byte{nil, {}, {5}, {0, 0}} {
				l := make([][]byte, n)
				l[i] = own
				want := api.OK
				if k == n {
					want = api.ErrShards
				}
				if got, err := shard.Rebuild(l, k, i); len(got) > 0 || err != want {
					t.Errorf("Rebuild of %x, %d, %d: %x, %v", l, k, i, got, err)
				}
			}
		}
	}
}

// P7.8 (G4): lists that are not proper for k, those of no shards and of more than 12 among them, and indices that are none; what is out of range comes before what is missing.
func TestRebuildRefuses(t *testing.T) {
	refused := func(l [][]byte, k, i int) {
		t.Helper()
		if got, err := shard.Rebuild(l, k, i); len(got) > 0 || err != api.ErrArg {
			t.Errorf("Rebuild of %x, %d, %d: %x, %v", l, k, i, got, err)
		}
	}
	for n := range 13 {
		var l [][]byte
		if n > 0 {
			l, _ = shard.Encode([]byte("bytes"), 1, n)
		}
		for _, l := range [][][]byte{l, make([][]byte, n)} {
			for _, k := range append(slices.Clone(odd), 0, n+1) {
				for i := -1; i <= n; i++ {
					refused(l, k, i)
				}
			}
			for k := range n + 1 {
				for _, i := range append(slices.Clone(odd), n, n+1) {
					refused(l, k, i)
				}
			}
		}
	}
	for _, n := range []int{13, 14, 255, 256, 257, 268} {
		for k := range n + 2 {
			for _, i := range []int{-1, 0, 1, 12, n - 1, n} {
				refused(slices.Repeat([][]byte{{1, 2}}, n), k, i)
				refused(make([][]byte, n), k, i)
			}
		}
	}
}

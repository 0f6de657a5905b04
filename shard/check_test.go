package shard_test

import (
	"math/rand"
	"slices"
	"testing"

	"burgage/shard"
)

// P7.5 (G5): the shards of bytes are accepted together; with one byte changed they are not, if there are more than k, for all k and n. If there are k, all are accepted.
func TestCheckChanged(t *testing.T) {
	g := rand.New(rand.NewSource(31))
	for _, p := range pairs() {
		k, n := p[0], p[1]
		l, _ := shard.Encode(someBytes(g, 3*k-g.Intn(2)), k, n)
		if !shard.Check(l, k) {
			t.Fatalf("Check of %x, %d: false", l, k)
		}
		for i := range l {
			for j := range l[i] {
				for _, x := range []byte{1, 128, 255, byte(1 + g.Intn(255))} {
					changed := clone(l)
					changed[i][j] ^= x
					if got := shard.Check(changed, k); got != (k == n) {
						t.Fatalf("Check of %x, %d, where %x was %x: %v", changed, k, changed[i], l[i], got)
					}
				}
			}
		}
	}
}

// P7.5 (G5): all ways to change a byte.
func TestCheckAllBytes(t *testing.T) {
	l, _ := shard.Encode([]byte("chunk"), 5, 7)
	for i := range l {
		for x := range 256 {
			changed := clone(l)
			changed[i][0] = byte(x)
			if got := shard.Check(changed, 5); got != (changed[i][0] == l[i][0]) {
				t.Errorf("Check of %x: %v", changed, got)
			}
		}
	}
}

// P7.1 (G5): shards for one k are not those for another one, and shards in another order are others; any shards, and those for which the first k are made to any.
func TestCheck(t *testing.T) {
	g := rand.New(rand.NewSource(32))
	seen := map[bool]int{}
	for range 20000 {
		l := someShards(g)
		k := g.Intn(15) - 1
		if p := pick(g, pairs()); g.Intn(2) == 0 {
			k = p[0]
			l, _ = shard.Encode(someBytes(g, g.Intn(5*k)), k, p[1])
			switch i, j := g.Intn(p[1]), g.Intn(p[1]); g.Intn(4) {
			case 0:
				k = 1 + g.Intn(12)
			case 1:
				l[i], l[j] = l[j], l[i]
			case 2:
				l = l[:i]
			}
		}
		got := shard.Check(l, k)
		if got != belong(l, k) {
			t.Fatalf("Check of %x, %d: %v", l, k, got)
		}
		seen[got]++
	}
	if seen[true] < 2000 || seen[false] < 2000 {
		t.Errorf("the results were %v", seen)
	}
}

// P7.1 (G5): shards whose lengths differ do not belong together, also if k is their number, and if only zeros are missing or too many.
func TestCheckLengths(t *testing.T) {
	for _, e := range []struct {
		l    [][]byte
		k    int
		want bool
	}{
		{[][]byte{{1, 2}, {3, 0}, {5, 6}}, 2, true},
		{[][]byte{{1, 2}, {3}, {5, 6}}, 2, false},
		{[][]byte{{1, 2}, {3, 0}, {5, 6, 0}}, 2, false},
		{[][]byte{{1, 2}, {3, 0}, {5}}, 2, false},
		{[][]byte{{1, 2}, {3, 0}, nil}, 2, false},
		{[][]byte{{1, 2, 3}, {0}, {5, 6}}, 2, false},
		{[][]byte{{1}, {2, 3, 0}, {5, 6}}, 2, false},
		{[][]byte{{1, 2, 3, 0}, {}, {5, 6}}, 2, false},
		{[][]byte{{1, 2}, {3, 4}}, 2, true},
		{[][]byte{{1, 2}, {3}}, 2, false},
		{[][]byte{{1}, {3, 4}}, 2, false},
		{[][]byte{{}, {0}}, 2, false},
		{[][]byte{{0}, {}}, 1, false},
		{[][]byte{{}, {0}}, 1, false},
		{[][]byte{{0}, {0, 0}}, 1, false},
		{[][]byte{nil, {}, nil, {}}, 3, true},
		{[][]byte{nil, {}, nil, {0}}, 3, false},
		{[][]byte{{0}, {0}, {0}, {}}, 3, false},
		{[][]byte{nil}, 1, true},
		{[][]byte{{9}}, 1, true},
	} {
		if got := shard.Check(e.l, e.k); got != e.want {
			t.Errorf("Check of %x, %d: %v", e.l, e.k, got)
		}
	}
	for _, p := range pairs() {
		if !shard.Check(make([][]byte, p[1]), p[0]) {
			t.Errorf("Check of %d shards without bytes, %d: false", p[1], p[0])
		}
	}
}

// P7.8 (G5): lists that are not proper for k, those of no shards and of more than 12 among them; where k is 1, so many equal shards would belong together.
func TestCheckRefuses(t *testing.T) {
	for n := range 30 {
		for _, l := range [][][]byte{make([][]byte, n), slices.Repeat([][]byte{{}}, n), slices.Repeat([][]byte{{5, 0}}, n), slices.Repeat([][]byte{{0}}, n)} {
			for _, k := range append(slices.Clone(odd), 0, 1, 2, n-1, n, n+1) {
				got := shard.Check(l, k)
				// Shards that are all equal are those of equal ones: the polynomials have this value everywhere.
				if want := n <= 12 && 1 <= k && k <= n; got != want {
					t.Errorf("Check of %x, %d: %v", l, k, got)
				}
			}
		}
	}
	for k := 1; k <= 12; k++ {
		l := encoded([]byte("shards"), k, 14)
		for n := k; n <= 14; n++ {
			if got := shard.Check(l[:n], k); got != (n <= 12) {
				t.Errorf("Check of %x, %d: %v", l[:n], k, got)
			}
		}
	}
}

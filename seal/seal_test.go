package seal_test

import (
	"bytes"
	"math/rand"
	"testing"

	"burgage/api"
	"burgage/seal"
)

// examples are bytes with what they are sealed as, which was found by another program.
var examples = []struct {
	key  api.Sum
	id   int
	b    string
	want string
}{
	{api.Sum{}, 0, "", "6d856b4aaa02cda5e5e88807432e97b0f386d3b5c177446c7ac12efde9bb277b"},
	{api.Sum{}, 7, "abc", "98f42a1034bf857b5014e3c13ce4e52e13b2bbd337fb850c12133ef826084198bf1d25"},
	{api.Sum{}, 7, "\x00\x00\x00\x00", "f996492f8a0c59b56f2f0aa70ba8199017d71bed35d6c944de2f36e69cfe779ae550438f"},
	{counting(), 1, "a", "92c3078c90b48e23897b7067dffaa35f7b7308348e8b81de532a2cbba3960fea16"},
	{counting(), 1<<32 + 1, "a", "604733fcc44f84376fcd63271a3be145e551ab83c299f222cabc6946555b920f7b"},
	{counting(), -1, string(make([]byte, 33)), "9d7097930b955f97aa5a86efa25b467fbcce4daf40763e6a30345a5eadde015731b380d9d77b479871698cb343a38c6a48d7823cc7c38710706821887e39d18429"},
	{counting(), 258, "The quick brown fox jumps over the lazy dog", "b626ef14460a3ad18c7c35bf637ffbc9c1083bfab710ea688e81427ada2f9ca84e2b7d43af3449f86096738c00d4e0a6d9621fcc665b27cfb7130b4e69103a34ada4e80e3d15e499bcca15"},
}

// P5.1 (E1, E2): examples, sealed and opened.
func TestExamples(t *testing.T) {
	for _, e := range examples {
		if got := seal.Seal(e.key, e.id, []byte(e.b)); !bytes.Equal(got, fromHex(e.want)) {
			t.Errorf("Seal of %q under %d: %x", e.b, e.id, got)
		}
		if got, err := seal.Open(e.key, e.id, fromHex(e.want)); string(got) != e.b || err != api.OK {
			t.Errorf("Open of %s under %d: %q, %v", e.want, e.id, got, err)
		}
	}
}

// P5.1 (E1): bytes of all lengths up to some, and about multiples of 32.
func TestSeal(t *testing.T) {
	g := rand.New(rand.NewSource(2))
	lengths := append([]int{1000, 10000}, sizes...)
	for n := range 300 {
		lengths = append(lengths, n)
	}
	for _, n := range lengths {
		for _, b := range [][]byte{full(n, 0), full(n, 255), someBytes(g, n)} {
			key, id := pick(g, keys()), pick(g, numbers)
			if got := seal.Seal(key, id, b); !bytes.Equal(got, sealed(key, id, b)) {
				t.Fatalf("Seal of %d bytes under %x and %d: %x", n, key, id, got)
			}
		}
	}
}

// P5.1 (E1): no bytes are sealed as their tag alone.
func TestSealNothing(t *testing.T) {
	for _, key := range keys() {
		for _, id := range numbers {
			for _, none := range [][]byte{nil, {}} {
				if got := seal.Seal(key, id, none); !bytes.Equal(got, tagOf(key, id, nil)) {
					t.Errorf("Seal of no bytes under %x and %d: %x", key, id, got)
				}
			}
		}
	}
}

// P5.1 (E1): all kinds of keys and numbers, also negative ones and those that are equal modulo 2^32, which have the same tags, but streams of their own.
func TestSealNumbers(t *testing.T) {
	g := rand.New(rand.NewSource(3))
	b := someBytes(g, 70)
	for _, key := range keys() {
		for _, id := range numbers {
			if got := seal.Seal(key, id, b); !bytes.Equal(got, sealed(key, id, b)) {
				t.Errorf("Seal under %x and %d: %x", key, id, got)
			}
		}
		for _, e := range equalNumbers {
			x, y := seal.Seal(key, e[0], b), seal.Seal(key, e[1], b)
			if !bytes.Equal(x, sealed(key, e[0], b)) || !bytes.Equal(y, sealed(key, e[1], b)) {
				t.Errorf("Seal under %x, %d and %d: %x, %x", key, e[0], e[1], x, y)
			}
			if bytes.Equal(x[:70], y[:70]) || !bytes.Equal(tagOf(key, e[0], x[:70]), tagOf(key, e[1], x[:70])) {
				t.Errorf("under %x, the noise for %d is that for %d, or has another tag for it", key, e[0], e[1])
			}
		}
	}
}

// P5.1 (E1, E2, E4), P5.2, P5.5 and P5.7: the greatest numbers of bytes.
func TestManyBytes(t *testing.T) {
	g := rand.New(rand.NewSource(4))
	for _, n := range []int{most - 33, most - 1, most} {
		b, key, other, id := someBytes(g, n), someKey(g), someKey(g), g.Intn(1000)
		c := seal.Seal(key, id, b)
		if !bytes.Equal(c, sealed(key, id, b)) || seal.Size(c) != n {
			t.Fatalf("%d bytes: %d bytes, of the size %d", n, len(c), seal.Size(c))
		}
		if got, err := seal.Open(key, id, c); !bytes.Equal(got, b) || err != api.OK {
			t.Errorf("Open of %d bytes: %d bytes, %v", len(c), len(got), err)
		}
		again, err := seal.Rekey(key, other, id, c)
		if !bytes.Equal(again, sealed(other, id, b)) || err != api.OK {
			t.Errorf("Rekey of %d bytes: %d bytes, %v", len(c), len(again), err)
		}
		if got, err := seal.Open(other, id, again); !bytes.Equal(got, b) || err != api.OK {
			t.Errorf("Open of %d bytes that were sealed again: %d bytes, %v", len(again), len(got), err)
		}
		c[g.Intn(len(c))] ^= 1
		if got, err := seal.Open(key, id, c); len(got) > 0 || err != api.ErrSeal {
			t.Errorf("Open of %d bytes with another bit: %d bytes, %v", len(c), len(got), err)
		}
	}
}

// contents returns contents of the same length, which differ in nothing, one bit, all bits, or somehow.
func contents(g *rand.Rand, n int) [][]byte {
	b := someBytes(g, n)
	l := [][]byte{b, b, full(n, 0), full(n, 255), xor(b, full(n, 255)), someBytes(g, n)}
	for range min(n, 20) {
		x := bytes.Clone(b)
		x[g.Intn(n)] ^= 1 << g.Intn(8)
		l = append(l, x)
	}
	return l
}

// P5.6: where two contents of one length differ, their noise does, in the same bits; and nowhere else.
func TestNoise(t *testing.T) {
	g := rand.New(rand.NewSource(5))
	for _, n := range sizes {
		key, id := pick(g, keys()), pick(g, numbers)
		l := contents(g, n)
		for _, a := range l[:4] {
			for _, b := range l {
				x, y := seal.Seal(key, id, a), seal.Seal(key, id, b)
				if !bytes.Equal(xor(x[:n], y[:n]), xor(a, b)) {
					t.Fatalf("%x and %x are sealed as %x and %x", a, b, x, y)
				}
			}
		}
	}
}

// P5.6: the noise of the beginning of bytes is the beginning of their noise.
func TestNoiseOfBeginnings(t *testing.T) {
	g := rand.New(rand.NewSource(6))
	for _, id := range []int{0, 9, -3} {
		key, b := someKey(g), someBytes(g, 200)
		c := seal.Seal(key, id, b)
		for n := range b {
			if got := seal.Seal(key, id, b[:n]); !bytes.Equal(got[:n], c[:n]) {
				t.Fatalf("the noise of the first %d bytes is %x", n, got)
			}
		}
	}
}

// P5.1 (E3) and P5.7: the sizes of bytes that were sealed, and of any others.
func TestSizes(t *testing.T) {
	g := rand.New(rand.NewSource(7))
	for _, n := range append([]int{100, 5000}, sizes...) {
		c := seal.Seal(pick(g, keys()), pick(g, numbers), someBytes(g, n))
		if len(c) != n+32 || seal.Size(c) != n {
			t.Errorf("%d bytes are sealed in %d bytes, with the size %d", n, len(c), seal.Size(c))
		}
	}
	for n := range 300 {
		want := n - 32
		if n < 32 {
			want = 0
		}
		for _, c := range [][]byte{full(n, 0), someBytes(g, n), someBytes(g, n+300)[:n]} {
			if got := seal.Size(c); got != want {
				t.Errorf("Size of %d bytes: %d", n, got)
			}
		}
	}
	if seal.Size(nil) != 0 || seal.Size(make([]byte, most+32)) != most || seal.Size(make([]byte, most+31)) != most-1 {
		t.Error("Size of nothing, or of the greatest numbers of bytes")
	}
}

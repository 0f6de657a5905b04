package seal_test

import (
	"bytes"
	"math/rand"
	"slices"
	"testing"

	"burgage/api"
	"burgage/seal"
)

// refuse checks that c is refused, with and without another key to seal it under.
func refuse(t *testing.T, what string, key api.Sum, id int, c []byte) {
	t.Helper()
	if got, err := seal.Open(key, id, c); len(got) > 0 || err != api.ErrSeal {
		t.Errorf("%s: Open of %x under %x and %d: %x, %v", what, c, key, id, got, err)
	}
	for _, other := range []api.Sum{{}, {5: 5}, key} {
		if got, err := seal.Rekey(key, other, id, c); len(got) > 0 || err != api.ErrSeal {
			t.Errorf("%s: Rekey of %x under %x and %d: %x, %v", what, c, key, id, got, err)
		}
	}
}

// P5.1 (E2): any noise with its right tag is opened, and all else is refused.
func TestOpen(t *testing.T) {
	g := rand.New(rand.NewSource(8))
	for range 30 {
		for _, n := range sizes {
			key, id := pick(g, keys()), pick(g, numbers)
			right := tagged(key, id, someBytes(g, n))
			for _, c := range [][]byte{right, right[1:], right[:len(right)-1], someBytes(g, n), full(n, 0), full(n+32, 0)} {
				want, wantErr := opened(key, id, c)
				if got, err := seal.Open(key, id, c); !bytes.Equal(got, want) || err != wantErr {
					t.Fatalf("Open of %x under %x and %d: %x, %v", c, key, id, got, err)
				}
			}
		}
	}
}

// P5.2: what was sealed is opened with the same key and number.
func TestOpening(t *testing.T) {
	g := rand.New(rand.NewSource(9))
	lengths := slices.Clone(sizes)
	for n := range 200 {
		lengths = append(lengths, n)
	}
	for _, n := range lengths {
		key, id, b := pick(g, keys()), pick(g, numbers), someBytes(g, n)
		if got, err := seal.Open(key, id, seal.Seal(key, id, b)); !bytes.Equal(got, b) || err != api.OK {
			t.Fatalf("%x was sealed under %x and %d; Open: %x, %v", b, key, id, got, err)
		}
	}
	for _, key := range keys() {
		for _, id := range numbers {
			for _, b := range []string{"", "a", "abc", "a text that is longer than a block"} {
				if got, err := seal.Open(key, id, seal.Seal(key, id, []byte(b))); string(got) != b || err != api.OK {
					t.Errorf("%q was sealed under %x and %d; Open: %q, %v", b, key, id, got, err)
				}
			}
		}
	}
}

// P5.2: bytes that were sealed already are bytes as any others.
func TestSealTwice(t *testing.T) {
	b := []byte("sealed twice")
	x := seal.Seal(api.Sum{1}, 5, b)
	y := seal.Seal(api.Sum{2}, 6, x)
	if got, err := seal.Open(api.Sum{2}, 6, y); !bytes.Equal(got, x) || err != api.OK {
		t.Errorf("Open: %x, %v", got, err)
	}
	refuse(t, "the inner key", api.Sum{1}, 5, y)
	twice := seal.Seal(api.Sum{1}, 5, x)
	if got, err := seal.Open(api.Sum{1}, 5, twice); !bytes.Equal(got, x) || err != api.OK {
		t.Errorf("Open with one key for both: %x, %v", got, err)
	}
}

// P5.3: sealed bytes are refused with keys that differ in a bit, and with other keys of all kinds.
func TestOtherKeys(t *testing.T) {
	g := rand.New(rand.NewSource(10))
	for _, n := range []int{0, 1, 32, 50} {
		for _, key := range keys() {
			id := pick(g, numbers)
			c := seal.Seal(key, id, someBytes(g, n))
			for i := range 256 {
				other := key
				other[i/8] ^= 1 << (i % 8)
				refuse(t, "a bit of the key", other, id, c)
			}
			turned := key
			slices.Reverse(turned[:])
			for _, other := range append(keys(), turned, someKey(g)) {
				if other != key {
					refuse(t, "another key", other, id, c)
				}
			}
		}
	}
}

// sameTag reports whether two numbers are equal modulo 2^32.
func sameTag(a, b int) bool { return uint32(a) == uint32(b) }

// P5.3: sealed bytes are refused with numbers that differ in one of the last 32 bits, and with others of all kinds, negative ones among them.
func TestOtherNumbers(t *testing.T) {
	g := rand.New(rand.NewSource(11))
	for _, n := range []int{0, 1, 32, 50} {
		for _, id := range numbers {
			key := pick(g, keys())
			c := seal.Seal(key, id, someBytes(g, n))
			for bit := range 32 {
				refuse(t, "a bit of the number", key, id^1<<bit, c)
			}
			for _, other := range append([]int{-id, id + 1, id - 1, id << 8, id >> 8, ^id}, numbers...) {
				if !sameTag(id, other) {
					refuse(t, "another number", key, other, c)
				}
			}
		}
	}
}

// P5.3, P5.1 (E2, E4): with a number that is equal modulo 2^32, and so has the same tag, other bytes are opened: those by the stream of that number.
func TestEqualNumbers(t *testing.T) {
	g := rand.New(rand.NewSource(12))
	for _, n := range sizes {
		for _, e := range equalNumbers {
			for _, ids := range [][2]int{e, {e[1], e[0]}} {
				key, other, b := pick(g, keys()), someKey(g), someBytes(g, n)
				c := seal.Seal(key, ids[0], b)
				want := xor(b, xor(streamOf(key, ids[0], n), streamOf(key, ids[1], n)))
				if got, err := seal.Open(key, ids[1], c); !bytes.Equal(got, want) || err != api.OK {
					t.Fatalf("%x was sealed under %d; Open with %d: %x, %v", b, ids[0], ids[1], got, err)
				}
				if got, err := seal.Rekey(key, other, ids[1], c); !bytes.Equal(got, sealed(other, ids[1], want)) || err != api.OK {
					t.Fatalf("%x was sealed under %d; Rekey with %d: %x, %v", b, ids[0], ids[1], got, err)
				}
			}
		}
	}
}

// P5.4: each bit of the noise and of the tag counts.
func TestChangedBits(t *testing.T) {
	g := rand.New(rand.NewSource(13))
	for _, n := range []int{0, 1, 3, 31, 32, 33, 64, 70} {
		key, id := pick(g, keys()), pick(g, numbers)
		c := seal.Seal(key, id, someBytes(g, n))
		for i := range 8 * len(c) {
			x := bytes.Clone(c)
			x[i/8] ^= 1 << (i % 8)
			refuse(t, "a bit", key, id, x)
		}
	}
}

// P5.4: no byte can be left out or added, at any place.
func TestMissingAndMoreBytes(t *testing.T) {
	g := rand.New(rand.NewSource(14))
	for _, n := range []int{0, 1, 31, 32, 33, 64} {
		key, id := pick(g, keys()), pick(g, numbers)
		c := seal.Seal(key, id, someBytes(g, n))
		for i := range c {
			refuse(t, "a byte left out", key, id, slices.Delete(bytes.Clone(c), i, i+1))
		}
		for i := range len(c) + 1 {
			for _, x := range []byte{0, 255, byte(g.Intn(256))} {
				refuse(t, "a byte added", key, id, slices.Insert(bytes.Clone(c), i, x))
			}
		}
		for i := range c {
			refuse(t, "the beginning alone", key, id, c[:i])
			refuse(t, "the end alone", key, id, c[i+1:])
		}
	}
}

// P5.4: neither parts that change their places, nor tags of something else are accepted.
func TestOtherTags(t *testing.T) {
	g := rand.New(rand.NewSource(15))
	for _, n := range []int{1, 2, 31, 32, 33, 64, 70} {
		key, id, b := pick(g, keys()), pick(g, numbers), someBytes(g, n)
		c := seal.Seal(key, id, b)
		noise, tag := c[:n], c[n:]
		turned := bytes.Clone(tag)
		slices.Reverse(turned)
		block := of(83, key[:], nil, noise)
		plain := tagOf(key, id, b)
		for _, x := range [][]byte{
			slices.Concat(tag, noise), slices.Concat(noise, turned), slices.Concat(noise, plain), slices.Concat(b, plain)[1:], slices.Concat(b, tag), slices.Concat(noise, tag, tag),
			slices.Concat(noise, noise, tag), slices.Concat(noise, block[:]), slices.Concat(noise, make([]byte, 32)), slices.Concat(noise, tagOf(key, id+1, noise)),
			slices.Concat(noise, tagOf(api.Sum{9: 9}, id, noise)), slices.Concat(noise, tagOf(key, id, nil)), slices.Concat(noise, tagOf(key, id, noise[1:])), slices.Concat(noise, key[:]),
		} {
			refuse(t, "another tag", key, id, x)
		}
	}
}

// P5.4: sealed bytes that were changed, and have their right tag, are opened as the bytes with these changes.
func TestRightTags(t *testing.T) {
	g := rand.New(rand.NewSource(16))
	for _, n := range sizes {
		key, id, b := pick(g, keys()), pick(g, numbers), someBytes(g, n)
		change := someBytes(g, n)
		c := seal.Seal(key, id, b)
		x := tagged(key, id, xor(c[:n], change))
		if got, err := seal.Open(key, id, x); !bytes.Equal(got, xor(b, change)) || err != api.OK {
			t.Errorf("%x with the changes %x: %x, %v", b, change, got, err)
		}
		short := tagged(key, id, c[:n/2])
		if got, err := seal.Open(key, id, short); !bytes.Equal(got, b[:n/2]) || err != api.OK {
			t.Errorf("the first %d bytes of %x: %x, %v", n/2, b, got, err)
		}
	}
}

// P5.7, P5.1 (E2, E4): less than 32 bytes are refused, whatever they are.
func TestShortBytes(t *testing.T) {
	g := rand.New(rand.NewSource(17))
	for _, key := range keys() {
		for _, id := range []int{0, 7, -1} {
			tag := seal.Seal(key, id, nil)
			refuse(t, "nothing", key, id, nil)
			for n := range 32 {
				for _, c := range [][]byte{tag[:n], tag[32-n:], full(n, 0), full(n, 255), someBytes(g, n), tagOf(key, id, tag[:n])[:n]} {
					refuse(t, "less than 32 bytes", key, id, c)
				}
			}
			if got, err := seal.Open(key, id, tag); len(got) > 0 || err != api.OK {
				t.Errorf("Open of the tag of nothing: %x, %v", got, err)
			}
		}
	}
}

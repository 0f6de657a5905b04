package seal_test

import (
	"bytes"
	"math/rand"
	"testing"

	"burgage/api"
	"burgage/seal"
)

// P5.5, P5.1 (E4): what was sealed again under another key is what Seal returns for it, is opened with this key, and is refused with the old one.
func TestRekey(t *testing.T) {
	g := rand.New(rand.NewSource(18))
	for _, n := range sizes {
		for _, old := range keys() {
			for _, key := range append(keys(), someKey(g)) {
				id, b := pick(g, numbers), someBytes(g, n)
				c := seal.Seal(old, id, b)
				got, err := seal.Rekey(old, key, id, c)
				if !bytes.Equal(got, sealed(key, id, b)) || err != api.OK {
					t.Fatalf("Rekey of %x from %x to %x, under %d: %x, %v", c, old, key, id, got, err)
				}
				if again, err := seal.Open(key, id, got); !bytes.Equal(again, b) || err != api.OK {
					t.Fatalf("%x, sealed again under %x and %d, is opened as %x, %v", b, key, id, again, err)
				}
				if old != key {
					refuse(t, "the old key", old, id, got)
				}
			}
		}
	}
}

// P5.5: numbers of all kinds.
func TestRekeyNumbers(t *testing.T) {
	g := rand.New(rand.NewSource(19))
	for _, id := range numbers {
		old, key, b := someKey(g), someKey(g), someBytes(g, 40)
		got, err := seal.Rekey(old, key, id, seal.Seal(old, id, b))
		if !bytes.Equal(got, seal.Seal(key, id, b)) || err != api.OK {
			t.Errorf("Rekey under %d: %x, %v", id, got, err)
		}
		if again, err := seal.Open(key, id, got); !bytes.Equal(again, b) || err != api.OK {
			t.Errorf("Open after Rekey under %d: %x, %v", id, again, err)
		}
	}
}

// P5.5, P5.1 (E4): with one key as the old and the new one, the same bytes come out, but only if they are right.
func TestRekeySame(t *testing.T) {
	g := rand.New(rand.NewSource(20))
	for _, key := range keys() {
		for _, n := range sizes {
			id := pick(g, numbers)
			c := seal.Seal(key, id, someBytes(g, n))
			if got, err := seal.Rekey(key, key, id, c); !bytes.Equal(got, c) || err != api.OK {
				t.Errorf("Rekey of %x: %x, %v", c, got, err)
			}
			x := bytes.Clone(c)
			x[g.Intn(len(x))]++
			for _, wrong := range [][]byte{x, c[1:], c[:len(c)-1], c[:31], nil} {
				if got, err := seal.Rekey(key, key, id, wrong); len(got) > 0 || err != api.ErrSeal {
					t.Errorf("Rekey of %x: %x, %v", wrong, got, err)
				}
			}
		}
	}
}

// P5.1 (E4): refused are bytes that were sealed under the new key, or with another number.
func TestRekeyRefuses(t *testing.T) {
	g := rand.New(rand.NewSource(21))
	for _, n := range sizes {
		old, key, id, b := someKey(g), someKey(g), g.Intn(1000), someBytes(g, n)
		for _, c := range [][]byte{seal.Seal(key, id, b), seal.Seal(old, id+1, b), seal.Seal(old, -id-1, b), seal.Seal(old, id^1<<31, b), b[:min(n, 31)]} {
			if got, err := seal.Rekey(old, key, id, c); len(got) > 0 || err != api.ErrSeal {
				t.Errorf("Rekey of %x: %x, %v", c, got, err)
			}
		}
	}
}

// P5.5: bytes that are sealed again and again stay the same, and come back to the first ones.
func TestRekeyOften(t *testing.T) {
	g := rand.New(rand.NewSource(22))
	first, b := someKey(g), someBytes(g, 100)
	start := seal.Seal(first, 12, b)
	c, last := start, first
	for range 50 {
		key := someKey(g)
		next, err := seal.Rekey(last, key, 12, c)
		got, openErr := seal.Open(key, 12, next)
		if err != api.OK || openErr != api.OK || !bytes.Equal(got, b) {
			t.Fatalf("%x, sealed again: %x, %v, %v", b, got, err, openErr)
		}
		c, last = next, key
	}
	if back, err := seal.Rekey(last, first, 12, c); !bytes.Equal(back, start) || err != api.OK {
		t.Errorf("Rekey to the first key: %x, %v", back, err)
	}
}

package shard_test

import (
	"testing"

	"burgage/shard"
)

// P7.1 (G1): examples, of which all but those of the chapter were found by another program.
func TestFieldExamples(t *testing.T) {
	for _, e := range [][3]byte{
		{2, 128, 29}, {3, 7, 9}, {255, 255, 226}, {16, 16, 29}, {29, 142, 128}, {128, 128, 19}, {254, 1, 254}, {85, 170, 159}, {2, 142, 1},
		{0, 0, 0}, {0, 255, 0}, {255, 0, 0}, {1, 1, 1}, {1, 0, 0},
	} {
		if got := shard.Mul(e[0], e[1]); got != e[2] {
			t.Errorf("Mul of %d and %d: %d", e[0], e[1], got)
		}
	}
	for _, e := range [][2]byte{{0, 0}, {1, 1}, {2, 142}, {3, 244}, {29, 131}, {128, 27}, {142, 2}, {254, 126}, {255, 253}} {
		if got := shard.Inv(e[0]); got != e[1] {
			t.Errorf("Inv of %d: %d", e[0], got)
		}
	}
}

// P7.1 (G1): all products are what remains when the products of the polynomials are divided; those with 0 are 0, and those with 1 are the other factor.
func TestMul(t *testing.T) {
	for i := range 256 {
		for j := range 256 {
			a, b := byte(i), byte(j)
			if got := shard.Mul(a, b); got != product(a, b) {
				t.Fatalf("Mul of %d and %d: %d, not %d", a, b, got, product(a, b))
			}
		}
		x := byte(i)
		if shard.Mul(0, x) != 0 || shard.Mul(x, 0) != 0 || shard.Mul(1, x) != x || shard.Mul(x, 1) != x {
			t.Errorf("the products of %d with 0 and 1", x)
		}
	}
}

// P7.2 (G1): the inverse of each byte but 0 is the only one whose product with it is 1; and 0, which has none, has 0.
func TestInv(t *testing.T) {
	if got := shard.Inv(0); got != 0 {
		t.Errorf("Inv of 0: %d", got)
	}
	for i := 1; i < 256; i++ {
		a := byte(i)
		inverse := shard.Inv(a)
		if shard.Inv(inverse) != a {
			t.Errorf("the inverse of the inverse of %d: %d", a, shard.Inv(inverse))
		}
		for j := range 256 {
			b := byte(j)
			if is := shard.Mul(a, b) == 1; is != (b == inverse) {
				t.Errorf("Inv of %d: %d, but the product with %d is 1: %v", a, inverse, b, is)
			}
		}
	}
}

// P7.2 (G1): products do not depend on the order, nor on that in which three are multiplied, and are distributed over sums, for all bytes; only with 0 they are 0.
func TestFieldLaws(t *testing.T) {
	var mul [256][256]byte
	for a := range mul {
		for b := range mul {
			mul[a][b] = shard.Mul(byte(a), byte(b))
		}
	}
	for a := range mul {
		for b := range mul {
			ab := mul[a][b]
			if ab != mul[b][a] {
				t.Fatalf("the products of %d and %d: %d and %d", a, b, ab, mul[b][a])
			}
			if (ab == 0) != (a == 0 || b == 0) {
				t.Fatalf("the product of %d and %d: %d", a, b, ab)
			}
			for c := range mul {
				if mul[a][b^c] != ab^mul[a][c] || mul[a][mul[b][c]] != mul[ab][c] {
					t.Fatalf("products of %d, %d and %d", a, b, c)
				}
			}
		}
	}
}

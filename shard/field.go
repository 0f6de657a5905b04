package shard

// Numbers of the field of bytes.
const (
	divisor = 285 // the bits of the polynomial by which products are divided
	order   = 255 // how many powers of 2 there are: all bytes but 0
)

// field has the powers of 2, and which power of 2 each byte but 0 is.
type field struct {
	powers [2 * order]byte // twice all of them, so that the sum of two logarithms is an index
	logs   [order + 1]byte
}

func newField() field {
	var f field
	power := 1
	for i := range order {
		f.powers[i], f.powers[i+order] = byte(power), byte(power)
		f.logs[power] = byte(i)
		power <<= 1
		if power > order {
			power ^= divisor
		}
	}
	return f
}

// mul returns the product of a and b.
func (f *field) mul(a, b byte) byte {
	if a == 0 || b == 0 {
		return 0
	}
	return f.powers[int(f.logs[a])+int(f.logs[b])]
}

// inv returns the inverse of a, and 0 for 0.
func (f *field) inv(a byte) byte {
	if a == 0 {
		return 0
	}
	return f.powers[order-int(f.logs[a])]
}

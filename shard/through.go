package shard

// known is a shard that is there, with its point.
type known struct {
	point byte
	data  []byte
}

// first returns the first k shards of l that are there, or all that are there, if they are less than k.
func first(l [][]byte, k int, isThere func(i int) bool) []known {
	var some []known
	for i, b := range l {
		if len(some) < k && isThere(i) {
			some = append(some, known{byte(i), b})
		}
	}
	return some
}

// through returns the polynomials through the shards of l, one for each index of their bytes: a function that returns the values of all of them at a point. All shards of l have the same length, and there is at least one.
func through(l []known) func(point int) []byte {
	f := newField()
	return func(point int) []byte {
		values := make([]byte, len(l[0].data))
		for _, s := range l {
			f.add(values, s.data, f.weight(l, s.point, byte(point)))
		}
		return values
	}
}

// weight returns the value, at a point, of the polynomial that is 1 at the point one, and 0 at all other points of l.
func (f *field) weight(l []known, one, point byte) byte {
	w := byte(1)
	for _, s := range l {
		if s.point != one {
			// The difference of two bytes is their sum, too.
			w = f.mul(w, f.mul(point^s.point, f.inv(one^s.point)))
		}
	}
	return w
}

// add adds the products of w and the bytes of b to sums.
func (f *field) add(sums, b []byte, w byte) {
	// At the point of a shard that is there, the others have no weight, and need not be read.
	if w == 0 {
		return
	}
	for i, x := range b {
		sums[i] ^= f.mul(w, x)
	}
}

package keys

import (
	"slices"

	"burgage/api"
)

// coverSize is how many bytes an element has: one of Depth, two of At, and those of Key.
const coverSize = 3 + len(api.Sum{})

// Bytes returns the bytes of k.
func Bytes(k api.Keys) []byte {
	b := make([]byte, 0, coverSize*len(k.Cover))
	for _, c := range k.Cover {
		b = append(b, byte(c.Depth), byte(c.At>>8), byte(c.At))
		b = append(b, c.Key[:]...)
	}
	return b
}

// Parse returns the valid keys with the bytes b.
func Parse(b []byte) (api.Keys, api.Errno) {
	// There are no more elements than chunks, so too many bytes need not be read.
	if len(b)%coverSize != 0 || len(b) > coverSize*api.MaxChunks {
		return api.Keys{}, api.ErrForm
	}
	var k api.Keys
	for e := range slices.Chunk(b, coverSize) {
		k.Cover = append(k.Cover, api.Cover{Depth: int(e[0]), At: int(e[1])<<8 | int(e[2]), Key: api.Sum(e[3:])})
	}
	if !Valid(k) {
		return api.Keys{}, api.ErrForm
	}
	return k, api.OK
}

package keys

import (
	"cmp"
	"iter"
	"slices"

	"burgage/api"
	"burgage/sponge"
)

// depthBelow returns how far the chunks are below c. It has no sign, since a shift by a negative number panics, and the Depth of keys that are not valid may be any.
func depthBelow(c api.Cover) uint { return uint(api.MaxKey - c.Depth) }

// size returns for how many chunks c stands.
func size(c api.Cover) int { return 1 << depthBelow(c) }

// first returns the first chunk for which c stands.
func first(c api.Cover) int { return c.At << depthBelow(c) }

// inRange reports whether Depth and At of c are in their ranges.
func inRange(c api.Cover) bool {
	return 0 <= c.Depth && c.Depth <= api.MaxKey && 0 <= c.At && c.At < 1<<c.Depth
}

// find returns the index of the element of k that stands for the chunk id, if there is one.
func find(k api.Keys, id int) (int, bool) {
	// What is no chunk is below no place either, so it is not found.
	return slices.BinarySearchFunc(k.Cover, id, func(c api.Cover, id int) int {
		return cmp.Compare(c.At, id>>depthBelow(c))
	})
}

// below returns the place i (0 or 1) of the two that are next below c, with its key.
func below(c api.Cover, i int) api.Cover {
	return api.Cover{Depth: c.Depth + 1, At: 2*c.At + i, Key: sponge.Of('K', [][]byte{c.Key[:], {byte(i)}})}
}

// way yields the places below c on the way down to the chunk id, each with the one above it.
func way(c api.Cover, id int) iter.Seq2[api.Cover, api.Cover] {
	return func(yield func(above, place api.Cover) bool) {
		above := c
		// A Depth that is not valid must not make the way longer.
		for d := max(c.Depth, 0); d < api.MaxKey; d++ {
			place := below(above, id>>(api.MaxKey-1-d)&1)
			if !yield(above, place) {
				return
			}
			above = place
		}
	}
}

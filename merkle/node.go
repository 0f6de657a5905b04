package merkle

import (
	"bytes"
	"iter"
	"slices"
	"sort"

	"burgage/api"
	"burgage/sponge"
)

// maxDepth is the number of bits of a key, and so the greatest depth of a node.
const maxDepth = 256

// bits are those of a key, from the most significant one of the first byte on.
type bits api.Sum

func bitsOf(key string) bits { return bits(sponge.Sum([]byte(key))) }

// at returns the bit d.
func (b bits) at(d int) int { return int(b[d/8] >> (7 - d%8) & 1) }

// agree reports whether the first n bits of both are equal.
func (b bits) agree(c bits, n int) bool {
	for d := range n {
		if b.at(d) != c.at(d) {
			return false
		}
	}
	return true
}

// placed is a leaf with the bits of its key, which say where its place in the tree is.
type placed struct {
	api.Leaf
	bits bits
}

// node is a node of a tree, with its leaves in the order of their bits. Its halves, left and right, are kept if its hash is made of theirs, and are nil otherwise.
type node struct {
	hash   api.Sum
	leaves []placed
	halves []node
}

// treeOf returns the node of the depth 0 for all leaves of l.
func treeOf(l []api.Leaf) node {
	leaves := make([]placed, 0, len(l))
	for _, x := range l {
		leaves = append(leaves, placed{x, bitsOf(x.Key)})
	}
	// Of leaves whose bits are all equal, the first one of l must stay the first one.
	slices.SortStableFunc(leaves, func(x, y placed) int { return bytes.Compare(x.bits[:], y.bits[:]) })
	return nodeOf(leaves, 0)
}

// nodeOf returns the node of this depth for the leaves, which agree in as many first bits, and are in the order of their bits.
func nodeOf(leaves []placed, depth int) node {
	if len(leaves) == 0 {
		return node{}
	}
	if len(leaves) == 1 || depth == maxDepth {
		return node{hash: hashOfLeaf(leaves[0].Leaf), leaves: leaves}
	}
	middle := sort.Search(len(leaves), func(i int) bool { return leaves[i].bits.at(depth) == 1 })
	halves := []node{nodeOf(leaves[:middle], depth+1), nodeOf(leaves[middle:], depth+1)}
	return node{hashOfHalves(halves[0].hash, halves[1].hash), leaves, halves}
}

// way yields the nodes of the way of the key with the bits b, from the root on, with their depths.
func way(root node, b bits) iter.Seq2[int, node] {
	return func(yield func(int, node) bool) {
		n := root
		for d := 0; yield(d, n) && n.halves != nil; d++ {
			n = n.halves[b.at(d)]
		}
	}
}

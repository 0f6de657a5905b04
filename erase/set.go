package erase

import (
	"iter"
	"maps"
	"slices"

	"burgage/api"
	"burgage/extent"
)

// set has numbers, of nodes or of chunks.
type set map[int]bool

// setOf returns the numbers of l as a set.
func setOf(l []int) set {
	s := set{}
	s.add(l)
	return s
}

// add puts the numbers of l into s.
func (s set) add(l []int) {
	for _, n := range l {
		s[n] = true
	}
}

// sorted returns the numbers of s in increasing order.
func (s set) sorted() []int { return slices.Sorted(maps.Keys(s)) }

// files yields the files of t with numbers in ids, in increasing order of these.
func files(t api.Tree, ids set) iter.Seq[api.Node] {
	return func(yield func(api.Node) bool) {
		for _, n := range t.Nodes {
			if n.Kind == api.File && ids[n.Id] && !yield(n) {
				return
			}
		}
	}
}

// bound returns the chunks that a hold has in one of trees, also those of files that have no entries.
func bound(trees []api.Tree, h api.Hold) set {
	ids, first := set{}, map[int]int{}
	for _, b := range h.Bind {
		ids[b.Node] = true
		first[b.Node] = max(first[b.Node], b.N)
	}
	chunks := set{}
	for _, t := range trees {
		for f := range files(t, ids) {
			chunks.add(extent.Used(extent.Part(f.Body, 0, first[f.Id])))
		}
	}
	return chunks
}

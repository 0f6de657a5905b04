package charge

import (
	"cmp"
	"slices"

	"burgage/api"
)

// run is what lies from lo on, without hi.
type run[N cmp.Ordered] struct{ lo, hi N }

// joined returns what lies in runs of l, as runs that are sorted and apart. It changes the order of l.
func joined[N cmp.Ordered](l []run[N]) []run[N] {
	slices.SortFunc(l, func(a, b run[N]) int { return cmp.Compare(a.lo, b.lo) })
	var out []run[N]
	for _, r := range l {
		if last := len(out) - 1; last >= 0 && r.lo <= out[last].hi {
			out[last].hi = max(out[last].hi, r.hi)
		} else {
			out = append(out, r)
		}
	}
	return out
}

// cut returns what lies in runs of l, and in none of others. The runs of each of them are sorted and apart.
func cut[N cmp.Ordered](l, others []run[N]) []run[N] {
	var left []run[N]
	for _, r := range l {
		// What ends before r ends before all runs behind it, too.
		for len(others) > 0 && others[0].hi <= r.lo {
			others = others[1:]
		}
		for _, o := range others {
			if r.hi <= o.lo {
				break
			}
			if r.lo < o.lo {
				left = append(left, run[N]{r.lo, o.lo})
			}
			r.lo = o.hi
		}
		if r.lo < r.hi {
			left = append(left, r)
		}
	}
	return left
}

// length returns how many numbers lie in runs that are apart.
func length(l []run[int]) int {
	n := 0
	for _, r := range l {
		n += r.hi - r.lo
	}
	return n
}

// chunkBytes returns the bytes of chunks that bodies of a tree have. Bytes of all chunks have different numbers, since no chunk has more than MaxBytes.
func chunkBytes(t api.Tree) []run[int] {
	var l []run[int]
	for _, n := range t.Nodes {
		for _, p := range n.Body {
			if p.Id != api.Hole && p.Id != api.Gone {
				first := p.Id*api.MaxBytes + p.From
				l = append(l, run[int]{first, first + p.N})
			}
		}
	}
	return l
}

package hold

import (
	"cmp"
	"maps"
	"slices"

	"burgage/api"
	"burgage/extent"
	"burgage/tree"
)

// all reports whether is holds for all elements of l.
func all[T any](l []T, is func(T) bool) bool {
	return !slices.ContainsFunc(l, func(x T) bool { return !is(x) })
}

// increase reports whether the numbers of the elements of l increase strictly, from 1 on.
func increase[T any](l []T, number func(T) int) bool {
	last := 0
	return all(l, func(x T) bool {
		before := last
		last = number(x)
		return before < last
	})
}

// isTime reports whether a hold may end then.
func isTime(n int) bool { return 0 <= n && n <= api.MaxTime }

// validBind reports whether a hold may bind this.
func validBind(l []api.Bind) bool {
	return increase(l, func(b api.Bind) int { return b.Node }) &&
		all(l, func(b api.Bind) bool { return 0 <= b.N && b.N <= api.MaxBytes })
}

// isLive reports whether a hold is not over.
func isLive(h api.Hold, now int) bool { return h.Until > now }

// linked returns the file with this number, and whether there is one that has entries.
func linked(t api.Tree, id int) (api.Node, bool) {
	n, e := tree.Get(t, id)
	return n, e == api.OK && n.Kind == api.File && n.Links != 0
}

// held returns the pieces that are held in t, and whether the file must stay, as it also does if none of its bytes are held.
func held(t api.Tree, b api.Bind) ([]api.Piece, bool) {
	f, is := linked(t, b.Node)
	if !is {
		return nil, false
	}
	return extent.Part(f.Body, 0, b.N), true
}

// firstBroken returns the index of the first live hold of which b does not keep what it holds in a, or -1.
func firstBroken(a, b api.Tree, l []api.Hold, now int) int {
	return slices.IndexFunc(l, func(h api.Hold) bool {
		return isLive(h, now) && !all(h.Bind, func(x api.Bind) bool { return keeps(a, b, x) })
	})
}

// keeps reports whether b keeps what is held in a.
func keeps(a, b api.Tree, x api.Bind) bool {
	pieces, must := held(a, x)
	if !must {
		return true
	}
	f, is := linked(b, x.Node)
	return is && extent.Same(pieces, extent.Part(f.Body, 0, extent.Size(pieces)))
}

// followed returns what is bound, and the copies of it.
func followed(l []api.Bind, pairs [][2]int) []api.Bind {
	sizes := map[int]int{}
	for _, b := range l {
		sizes[b.Node] = b.N
	}
	// A copy may be the original of another pair, which must not see what became of it.
	with := maps.Clone(sizes)
	for _, p := range pairs {
		if n, is := sizes[p[0]]; is && p[1] >= 1 {
			with[p[1]] = max(with[p[1]], n)
		}
	}
	var out []api.Bind
	for node, n := range with {
		out = append(out, api.Bind{Node: node, N: n})
	}
	slices.SortFunc(out, func(a, b api.Bind) int { return cmp.Compare(a.Node, b.Node) })
	return out
}

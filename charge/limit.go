package charge

import (
	"cmp"
	"slices"

	"burgage/api"
	"burgage/tree"
)

// maxLimits is the number of limits up to which Set adds one.
const maxLimits = 16

// lastPerson is the greatest number that somebody has; the least one is 0.
const lastPerson = 999

// Fits reports whether accounts are within limits.
func Fits(l []api.Account, lim []api.Limit) bool {
	for _, x := range lim {
		var nodes, bytes total
		for _, a := range l {
			if x.Owner == api.Everyone || x.Owner == a.Owner {
				nodes, bytes = nodes.plus(a.Use.Nodes), bytes.plus(a.Use.Bytes)
			}
		}
		if nodes.exceeds(x.Max.Nodes) || bytes.exceeds(x.Max.Bytes) {
			return false
		}
	}
	return true
}

// total is a sum of numbers, which may pass 64 bits: high times 2^32, and low, which is less than that.
type total struct{ high, low int }

func (s total) plus(n int) total {
	const rest = 1<<32 - 1
	low := s.low + n&rest
	return total{high: s.high + n>>32 + low>>32, low: low & rest}
}

// exceeds reports whether s is greater than n.
func (s total) exceeds(n int) bool {
	t := total{}.plus(n)
	return s.high > t.high || s.high == t.high && s.low > t.low
}

// Set puts a limit into a list.
func Set(lim []api.Limit, x api.Limit) ([]api.Limit, api.Errno) {
	set := slices.Clone(lim)
	if x.Owner != api.Everyone && !isPerson(x.Owner) || x.Max.Nodes < 0 || x.Max.Bytes < 0 {
		return set, api.ErrArg
	}
	i, is := slices.BinarySearchFunc(set, x.Owner, func(y api.Limit, owner int) int { return cmp.Compare(y.Owner, owner) })
	switch {
	case is:
		set[i] = x
	case len(set) >= maxLimits:
		return set, api.ErrBig
	default:
		set = slices.Insert(set, i, x)
	}
	return set, api.OK
}

// isPerson reports whether who is somebody.
func isPerson(who int) bool { return 0 <= who && who <= lastPerson }

// Blocks reports whether an operation must be refused because of limits.
func Blocks(t api.Tree, x api.Op, lim []api.Limit) bool {
	// With an error, the tree after it is the one before, in which no use is greater.
	after, _ := tree.Do(t, x, 0)
	was, is := Of(t), Of(after)
	return slices.ContainsFunc(lim, func(y api.Limit) bool {
		u, v := limited(was, y.Owner), limited(is, y.Owner)
		return v.Nodes > max(u.Nodes, y.Max.Nodes) || v.Bytes > max(u.Bytes, y.Max.Bytes)
	})
}

// limited returns the use for which the limit of owner is.
func limited(l []api.Account, owner int) api.Use {
	if owner == api.Everyone {
		return All(l)
	}
	return Get(l, owner)
}

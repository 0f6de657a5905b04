package ledger

import (
	"slices"

	"burgage/acl"
	"burgage/api"
	"burgage/name"
	"burgage/tree"
)

// lastPerson is the greatest number of a person; the first one is 0.
const lastPerson = 999

// areSmall reports whether numbers are in the range of those in records.
func areSmall(l ...int) bool {
	return !slices.ContainsFunc(l, func(n int) bool { return n < 0 || n > api.MaxTime })
}

// arePaths reports whether texts are paths.
func arePaths(l ...string) bool {
	return !slices.ContainsFunc(l, func(p string) bool {
		_, e := name.Parts(p)
		return e != api.OK
	})
}

// isPerson reports whether who is somebody.
func isPerson(who int) bool { return 0 <= who && who <= lastPerson }

// isRightOp reports whether an operation may be in a record.
func isRightOp(x api.Op) bool {
	return api.Mkdir <= x.Kind && x.Kind <= api.Read && isPerson(x.Who) && arePaths(x.Path, x.To) && areSmall(x.Off, x.N, x.Id) && acl.Valid(x.Acl)
}

// areRightOps reports whether operations may be in one record together.
func areRightOps(l []api.Op) bool {
	return len(l) <= api.MaxSteps && !slices.ContainsFunc(l, func(x api.Op) bool { return !isRightOp(x) })
}

// isRightLimit reports whether a limit may be in a record.
func isRightLimit(l api.Limit) bool {
	return (l.Owner == api.Everyone || isPerson(l.Owner)) && areSmall(l.Max.Nodes, l.Max.Bytes)
}

// withoutOwn returns r without its Kind and the fields that this has, and whether these are right. Of a record that is right, nothing is left.
func withoutOwn(r api.Record) (api.Record, bool) {
	kind, is := r.Kind, false
	r.Kind = 0
	switch kind {
	case api.DoOp:
		is, r.Op = isRightOp(r.Op), api.Op{}
	case api.TakeSnap:
		is, r.Name = name.Valid(r.Name), ""
	case api.Release, api.Destroy, api.Close, api.Tick:
		is, r.N = areSmall(r.N), 0
	case api.Clone:
		is = areSmall(r.N) && arePaths(r.Path, r.Op.Path) && isPerson(r.Op.Who)
		r.N, r.Path, r.Op.Path, r.Op.Who = 0, "", "", 0
	case api.Retain, api.Erase:
		is = arePaths(r.Path) && areSmall(r.N)
		r.Path, r.N = "", 0
	case api.Ack:
		is = areSmall(r.N, r.M)
		r.N, r.M = 0, 0
	case api.SetLimit:
		is, r.Limit = isRightLimit(r.Limit), api.Limit{}
	case api.Lend:
		is = arePaths(r.Path) && areSmall(r.N) && isRightLimit(r.Limit) && isPerson(r.Op.Who)
		r.Path, r.N, r.Limit, r.Op.Who = "", 0, api.Limit{}, 0
	case api.Return:
		is = areSmall(r.N) && areRightOps(r.Ops)
		r.N, r.Ops = 0, nil
	case api.Give:
		is = arePaths(r.Path) && areSmall(r.Tx)
		r.Path, r.Tx = "", 0
	case api.Take:
		is = arePaths(r.Path) && areSmall(r.Tx) && tree.Valid(r.Tree)
		r.Path, r.Tx, r.Tree = "", 0, api.Tree{}
	}
	return r, is
}

package ledger_test

import (
	"bytes"
	"math"
	"math/rand"
	"reflect"
	"slices"
	"strings"
	"testing"

	"burgage/api"
	"burgage/ledger"
	"burgage/tree"
)

// plain has a right record of each kind, in which all fields of the kind are other than zero.
func plain() []api.Record {
	limit := api.Limit{Owner: 4, Max: api.Use{Nodes: 1, Bytes: 2}}
	op := api.Op{Kind: api.Rename, Who: 7, Path: "a/b", To: "c", Off: 1, N: 2, Id: 3, Acl: some}
	return []api.Record{
		{Kind: api.DoOp, Op: op},
		{Kind: api.TakeSnap, Name: "a"},
		{Kind: api.Release, N: 3},
		{Kind: api.Clone, N: 3, Path: "a", Op: api.Op{Who: 7, Path: "b/c"}},
		{Kind: api.Retain, Path: "a", N: 9},
		{Kind: api.Erase, Path: "a", N: 9},
		{Kind: api.Destroy, N: 3},
		{Kind: api.Ack, N: 3, M: 4},
		{Kind: api.Close, N: 3},
		{Kind: api.SetLimit, Limit: limit},
		{Kind: api.Tick, N: 5},
		{Kind: api.Lend, Path: "a", N: 9, Limit: limit, Op: api.Op{Who: 7}},
		{Kind: api.Return, N: 3, Ops: []api.Op{op, {Kind: api.Mkdir}}},
		{Kind: api.Give, Path: "a", Tx: 8},
		{Kind: api.Take, Path: "a", Tx: 8, Tree: sample()},
	}
}

// P14.1 (N1), P14.7: a record of each kind, with the fields of this kind, and with these as zero values, which most of them may be.
func TestKinds(t *testing.T) {
	for i, r := range plain() {
		if r.Kind != i+1 {
			t.Fatalf("the record %d is of the kind %d", i, r.Kind)
		}
		expect(t, r, true)
		for _, f := range fields(&r)[1:] {
			if has := own[r.Kind][f.name] != nil; has == isEmpty(f.value) {
				t.Fatalf("%s of the kind %d is %v", f.name, r.Kind, f.value)
			}
		}
	}
	for _, kind := range kinds {
		expect(t, api.Record{Kind: kind}, kind != api.DoOp && kind != api.TakeSnap && kind != api.Take)
	}
}

// P14.1 (N1), P14.7: kinds that there are not, with no fields, and with those of each kind.
func TestNoKinds(t *testing.T) {
	for _, kind := range append([]int{0, 16, 17, 1000, 256 + 11, 1<<32 + 11}, odd...) {
		expect(t, api.Record{Kind: kind}, false)
		expect(t, api.Record{Kind: kind, N: 5}, false)
		for _, r := range plain() {
			r.Kind = kind
			expect(t, r, false)
		}
	}
}

// P14.1 (N1), P14.7: the fields of one kind with another kind, which is right only if this has them all, and its own ones may be zero values.
func TestOtherKinds(t *testing.T) {
	accepted := 0
	for _, r := range plain() {
		was := r.Kind
		for _, kind := range kinds {
			is := kind == was || kind != api.DoOp && kind != api.TakeSnap && kind != api.Take
			for name := range own[was] {
				is = is && own[kind][name] != nil
			}
			r.Kind = kind
			expect(t, r, is)
			if is {
				accepted++
			}
		}
	}
	// Of the kinds with N alone, the four themselves, and Clone, Retain, Erase, Ack, Lend and Return; of Retain and Erase, both, Clone and Lend; of SetLimit, that and Lend; of the others, themselves.
	if accepted != 4*10+2*4+2+8 {
		t.Errorf("%d were accepted", accepted)
	}
}

// othersOf returns values for a field that are not zero, among them some that another kind may have.
func othersOf(f field) []any {
	var l []any
	switch f.value.Interface().(type) {
	case int:
		for _, n := range append([]int{1, 2, 16, 999, most}, odd...) {
			l = append(l, n)
		}
	case string:
		for _, s := range slices.Concat(paths[1:], names, noPaths) {
			l = append(l, s)
		}
	case []api.Ace:
		l = append(l, some, []api.Ace{{}}, full(16), full(17))
	case []api.Op:
		l = append(l, []api.Op{{}}, []api.Op{{Kind: api.Mkdir, Path: "a"}}, make([]api.Op, 401))
	case []api.Node:
		l = append(l, sample().Nodes, tree.New(0).Nodes, []api.Node{{}})
	case []api.Open:
		l = append(l, sample().Opens, []api.Open{{}})
	}
	return l
}

// P14.1 (N1), P14.7: each field that is none of the kind with other values, one at a time.
func TestNoField(t *testing.T) {
	n := 0
	for _, r := range plain() {
		for _, f := range fields(&r)[1:] {
			if own[r.Kind][f.name] != nil {
				continue
			}
			for _, v := range othersOf(f) {
				expect(t, set(r, f.name, v), false)
				n++
			}
		}
	}
	if n < 2500 {
		t.Errorf("%d values were tried", n)
	}
}

// P14.1 (N1): the tree of a record that has none is empty in all of its parts.
func TestNoTree(t *testing.T) {
	for _, r := range plain() {
		if r.Kind != api.Take {
			for _, s := range trees() {
				r.Tree = s
				expect(t, r, false)
			}
		}
	}
}

// P14.1 (N1): the fields that are to be small, with the bounds and numbers beyond them; owners of limits may be -1.
func TestNumbers(t *testing.T) {
	var names []string
	for _, r := range plain() {
		for _, f := range fields(&r)[1:] {
			if own[r.Kind][f.name] == nil || f.value.Kind() != reflect.Int {
				continue
			}
			lo, hi := 0, most
			switch f.name {
			case "Op.Kind":
				lo, hi = 1, 16
			case "Op.Who":
				hi = 999
			case "Limit.Owner":
				lo, hi = -1, 999
			case "Tree.Next":
				lo, hi = 7, math.MaxInt
			}
			names = append(names, f.name)
			for _, n := range append([]int{lo, lo + 1, hi - 1, hi, lo - 1, lo - 2, hi + 1, hi + 2, -1, 0, 1, 16, 17, 999, 1000, most, most + 1}, odd...) {
				expect(t, set(r, f.name, n), lo <= n && n <= hi)
			}
		}
	}
	if len(names) != 5+1+2+1+1+1+2+1+3+1+5+1+1+2 {
		t.Errorf("the fields %v", names)
	}
}

// P14.1 (N1): the fields that are paths or names.
func TestTexts(t *testing.T) {
	n := 0
	for _, r := range plain() {
		for _, f := range fields(&r)[1:] {
			if own[r.Kind][f.name] == nil || f.value.Kind() != reflect.String {
				continue
			}
			n++
			yes, no := paths, noPaths
			if f.name == "Name" {
				yes, no = names, noNames
			}
			for _, s := range yes {
				expect(t, set(r, f.name, s), true)
			}
			for _, s := range append(no, strings.Repeat("a", 1<<20), strings.Repeat("/", 1<<20), "a/b/c/d/e/f/g/h/"+strings.Repeat("i/", 1<<18)) {
				if ledger.Valid(set(r, f.name, s)) || len(ledger.Bytes(set(r, f.name, s))) > 0 {
					t.Errorf("%s of the kind %d may be %.40q", f.name, r.Kind, s)
				}
			}
		}
	}
	if n != 2+1+2+1+1+1+1+1 {
		t.Errorf("%d texts", n)
	}
}

// P14.1 (N1): the path of the root, and paths of 8 and of 9 names.
func TestDepths(t *testing.T) {
	eightNames := "a/b/c/d/e/f/g/h"
	for _, kind := range []int{api.Clone, api.Retain, api.Erase, api.Lend, api.Give} {
		expect(t, api.Record{Kind: kind}, true)
		expect(t, api.Record{Kind: kind, Path: eightNames}, true)
		expect(t, api.Record{Kind: kind, Path: eightNames + "/i"}, false)
	}
	expect(t, api.Record{Kind: api.Clone, Op: api.Op{Path: eightNames}}, true)
	expect(t, api.Record{Kind: api.Clone, Op: api.Op{Path: eightNames + "/i"}}, false)
	expect(t, api.Record{Kind: api.Clone, Op: api.Op{To: "a"}}, false)
	expect(t, api.Record{Kind: api.Lend, Op: api.Op{Path: "a"}}, false)
}

// wrongOps are operations that are not right.
func wrongOps() []api.Op {
	var l []api.Op
	x := api.Op{Kind: api.Rename, Who: 7, Path: "a/b", To: "c", Off: 1, N: 2, Id: 3, Acl: some}
	for _, n := range append([]int{0, 17, 18}, odd...) {
		x := x
		x.Kind = n
		l = append(l, x)
	}
	for _, n := range append([]int{1000, 1001}, odd...) {
		x := x
		x.Who = n
		l = append(l, x)
	}
	for _, s := range noPaths {
		y, z := x, x
		y.Path, z.To = s, s
		l = append(l, y, z)
	}
	for _, n := range odd {
		a, b, c := x, x, x
		a.Off, b.N, c.Id = n, n, n
		l = append(l, a, b, c)
	}
	for _, a := range noLists {
		y := x
		y.Acl = a
		l = append(l, y)
	}
	return l
}

// P14.1 (N1): operations that are right, of each kind, with all of their bounds; and such as are not, alone and among others.
func TestOperations(t *testing.T) {
	for kind := 1; kind <= 16; kind++ {
		for _, x := range []api.Op{{Kind: kind}, {Kind: kind, Who: 999, Path: deep, To: deep, Off: most, N: most, Id: most, Acl: full(16)}} {
			expect(t, api.Record{Kind: api.DoOp, Op: x}, true)
			expect(t, api.Record{Kind: api.Return, Ops: []api.Op{x}}, true)
		}
	}
	for _, a := range lists {
		expect(t, api.Record{Kind: api.DoOp, Op: api.Op{Kind: api.SetAcl, Acl: a}}, true)
	}
	good := api.Op{Kind: api.Mkdir, Path: "a"}
	for _, x := range wrongOps() {
		expect(t, api.Record{Kind: api.DoOp, Op: x}, false)
		expect(t, api.Record{Kind: api.Return, Ops: []api.Op{x}}, false)
		expect(t, api.Record{Kind: api.Return, Ops: []api.Op{x, good}}, false)
		expect(t, api.Record{Kind: api.Return, Ops: []api.Op{good, good, x}}, false)
	}
}

// P14.1 (N1): a Return has at most 400 operations.
func TestManyOperations(t *testing.T) {
	x := api.Op{Kind: api.Append, Who: 3, Path: "a/b", Id: 5, N: 2}
	for n, is := range map[int]bool{0: true, 1: true, 399: true, 400: true, 401: false, 402: false, 800: false} {
		expect(t, api.Record{Kind: api.Return, N: 2, Ops: slices.Repeat([]api.Op{x}, n)}, is)
	}
	l := slices.Repeat([]api.Op{x}, 400)
	for _, i := range []int{0, 1, 200, 398, 399} {
		wrong := slices.Clone(l)
		wrong[i].Kind = 0
		expect(t, api.Record{Kind: api.Return, N: 2, Ops: wrong}, false)
	}
}

// P14.1 (N1): limits of all owners, with and without a use, in both kinds that have one.
func TestLimits(t *testing.T) {
	for owner, is := range map[int]bool{-1: true, 0: true, 1: true, 999: true, 1000: false, -2: false, math.MinInt: false, math.MaxInt: false} {
		for _, use := range []api.Use{{}, {Nodes: most}, {Bytes: most}, {Nodes: most, Bytes: most}} {
			l := api.Limit{Owner: owner, Max: use}
			expect(t, api.Record{Kind: api.SetLimit, Limit: l}, is)
			expect(t, api.Record{Kind: api.Lend, Limit: l}, is)
		}
		for _, n := range odd {
			for _, use := range []api.Use{{Nodes: n}, {Bytes: n}, {Nodes: n, Bytes: n}} {
				expect(t, api.Record{Kind: api.SetLimit, Limit: api.Limit{Owner: owner, Max: use}}, false)
				expect(t, api.Record{Kind: api.Lend, Limit: api.Limit{Owner: owner, Max: use}}, false)
			}
		}
	}
}

// P14.1 (N1): trees that are valid, and such as are not.
func TestTrees(t *testing.T) {
	for _, s := range trees() {
		expect(t, api.Record{Kind: api.Take, Tree: s}, true)
	}
	for _, s := range noTrees() {
		expect(t, api.Record{Kind: api.Take, Tree: s}, false)
	}
}

// P14.1 (N1, N2): a great tree, with as many nodes as there may be.
func TestGreatTree(t *testing.T) {
	s := tree.New(3)
	for i := range 255 {
		id := i + 2
		n := api.Node{Id: id, Kind: api.File, Owner: 3, Acl: full(16), Links: 1, Ver: most}
		for j := range 20 {
			n.Body = append(n.Body, api.Piece{Id: 1 + (i+j)%4095, From: j, N: 1})
		}
		s.Nodes = append(s.Nodes, n)
		s.Nodes[0].List = append(s.Nodes[0].List, api.Entry{Name: "n" + string(rune('a'+i/26)) + string(rune('a'+i%26)), Id: id})
	}
	for i := range 32 {
		s.Opens = append(s.Opens, api.Open{Node: i + 2, Who: i})
	}
	s.Next = 257
	expect(t, api.Record{Kind: api.Take, Path: "a", Tx: 1, Tree: s}, true)
	s.Opens = append(s.Opens, api.Open{Node: 100})
	expect(t, api.Record{Kind: api.Take, Path: "a", Tx: 1, Tree: s}, false)
}

// P14.1 (N1, N2, N3): a content of more than 2^24 bytes, so that all four bytes of its length count.
func TestGreatContent(t *testing.T) {
	s := sample()
	for i := range 700000 {
		s.Nodes[3].Body = append(s.Nodes[3].Body, api.Piece{Id: 1 + i%2, N: 1})
	}
	r := api.Record{Kind: api.Take, Path: "a", Tx: 1, Tree: s}
	if n := len(contentOf(r)); n < 1<<24 {
		t.Fatalf("%d bytes", n)
	}
	b := framed(contentOf(r))
	if got := ledger.Bytes(r); !bytes.Equal(got, b) {
		t.Errorf("%x, not %x, is the head of %d bytes", got[:8], b[:8], len(got))
	}
	if got, n, e := ledger.Parse(append(b, 1)); !equal(got, r) || n != len(b) || e != api.OK {
		t.Errorf("%d of %d bytes, %v", n, len(b), e)
	}
}

// P14.1 (N1), P14.7: records of all kinds, with fields of all values, as the table says.
func TestValidAsTheTable(t *testing.T) {
	g := rand.New(rand.NewSource(2))
	found := 0
	for range 20000 {
		r := someRecord(g)
		is := right(r)
		expect(t, r, is)
		if is {
			found++
		}
	}
	if found < 8000 || found > 16000 {
		t.Errorf("%d were right", found)
	}
}

// P14.1 (N1, N2), P1 of the document: long lists, where there should be none, or fewer.
func TestLongLists(t *testing.T) {
	many := 1 << 20
	for _, r := range []api.Record{
		{Kind: api.Tick, Ops: make([]api.Op, many)},
		{Kind: api.Return, Ops: slices.Repeat([]api.Op{{Kind: api.Mkdir}}, many)},
		{Kind: api.Take, Tree: api.Tree{Nodes: make([]api.Node, many), Opens: make([]api.Open, many)}},
		{Kind: api.DoOp, Op: api.Op{Kind: api.SetAcl, Acl: make([]api.Ace, many)}},
		{Kind: api.Close, Tree: api.Tree{Opens: make([]api.Open, many)}},
	} {
		if len(ledger.Bytes(r)) > 0 {
			t.Errorf("a record of the kind %d with a long list has bytes", r.Kind)
		}
	}
}

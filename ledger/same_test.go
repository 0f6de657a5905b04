package ledger_test

import (
	"math/rand"
	"reflect"
	"slices"
	"testing"

	"burgage/api"
	"burgage/ledger"
)

// copied returns a copy of a value, with other lists; it makes those nil that have no elements, or makes them empty ones.
func copied(v reflect.Value, toNil bool) reflect.Value {
	c := reflect.New(v.Type()).Elem()
	switch v.Kind() {
	case reflect.Slice:
		if v.Len() > 0 || !toNil {
			c.Set(reflect.MakeSlice(v.Type(), v.Len(), v.Len()))
		}
		for i := range v.Len() {
			c.Index(i).Set(copied(v.Index(i), toNil))
		}
	case reflect.Struct:
		for i := range v.NumField() {
			c.Field(i).Set(copied(v.Field(i), toNil))
		}
	default:
		c.Set(v)
	}
	return c
}

func copyOf[T any](x T, toNil bool) T {
	return copied(reflect.ValueOf(x), toNil).Interface().(T)
}

// changes returns how many numbers, texts, bools and lists a value has, and changes that with the number which.
func changes(v reflect.Value, which int) int {
	n := 0
	switch v.Kind() {
	case reflect.Slice:
		for i := range v.Len() {
			n += changes(v.Index(i), which-n)
		}
		// Another element at the end.
		if n == which {
			v.Set(reflect.Append(v, reflect.New(v.Type().Elem()).Elem()))
		}
		n++
		// No element at the end.
		if v.Len() > 0 {
			if n == which {
				v.Set(v.Slice(0, v.Len()-1))
			}
			n++
		}
		return n
	case reflect.Struct:
		for i := range v.NumField() {
			n += changes(v.Field(i), which-n)
		}
		return n
	}
	if which == 0 {
		switch v.Kind() {
		case reflect.Int:
			v.SetInt(v.Int() + 1)
		case reflect.Bool:
			v.SetBool(!v.Bool())
		case reflect.String:
			v.SetString(v.String() + "a")
		}
	}
	return 1
}

// whole is a record, which is not right, with all lists there are.
func whole() api.Record {
	op := api.Op{Kind: 1, Who: 2, Path: "p", To: "t", Off: 3, N: 4, Id: 5, Acl: full(2)}
	return api.Record{Kind: 6, Op: op, Path: "q", Name: "n", N: 7, M: 8, Tx: 9, Limit: api.Limit{Owner: 10, Max: api.Use{Nodes: 11, Bytes: 12}}, Ops: []api.Op{op, {}}, Tree: sample()}
}

// P14.1 (N7): records that differ in one number, text or bool, or in the number of elements of one list, wherever it is, are not the same; a copy is.
func TestSame(t *testing.T) {
	l := append(plain(), whole(), api.Record{})
	for _, r := range l {
		if !ledger.Same(r, r) || !ledger.Same(r, copyOf(r, true)) || !ledger.Same(copyOf(r, false), r) {
			t.Fatalf("%+v is not the same", r)
		}
		c := copyOf(r, true)
		n := changes(reflect.ValueOf(&c).Elem(), -1)
		if n < 21 {
			t.Fatalf("%+v has %d changes", r, n)
		}
		for which := range n {
			other := copyOf(r, true)
			changes(reflect.ValueOf(&other).Elem(), which)
			if equal(r, other) || ledger.Same(r, other) || ledger.Same(other, r) {
				t.Fatalf("%+v is the same as %+v", r, other)
			}
			if !ledger.Same(other, copyOf(other, true)) {
				t.Fatalf("%+v is not the same", other)
			}
		}
	}
	for i, r := range l {
		for j, other := range l {
			if ledger.Same(r, other) != (i == j) {
				t.Errorf("%+v and %+v", r, other)
			}
		}
	}
}

// P14.1 (N7): elements in another order, and texts and lists whose elements belong elsewhere.
func TestSameElsewhere(t *testing.T) {
	one, two := api.Op{Kind: 1, Path: "a"}, api.Op{Kind: 2, Path: "a"}
	for _, pair := range [][2]api.Record{
		{{Ops: []api.Op{one, two}}, {Ops: []api.Op{two, one}}},
		{{Path: "ab", Name: "c"}, {Path: "a", Name: "bc"}},
		{{Path: "a"}, {Name: "a"}},
		{{Path: "a"}, {Op: api.Op{Path: "a"}}},
		{{Op: api.Op{Path: "a"}}, {Op: api.Op{To: "a"}}},
		{{N: 1}, {M: 1}},
		{{M: 1}, {Tx: 1}},
		{{Op: one}, {Ops: []api.Op{one}}},
		{{Op: api.Op{Acl: full(1)}}, {Ops: []api.Op{{Acl: full(1)}}}},
		{{Ops: []api.Op{{Acl: full(1)}, {}}}, {Ops: []api.Op{{}, {Acl: full(1)}}}},
		{{Op: api.Op{Acl: []api.Ace{{Allow: true}}}}, {Op: api.Op{Acl: []api.Ace{{Given: true}}}}},
		{{Tree: api.Tree{Opens: []api.Open{{Node: 1}}}}, {Tree: api.Tree{Opens: []api.Open{{Who: 1}}}}},
		{{Ops: make([]api.Op, 3)}, {Tree: api.Tree{Nodes: make([]api.Node, 3)}}},
		{{N: -1}, {N: 1<<32 - 1}},
		{{Path: "\x00"}, {}},
		{{Path: "\xff"}, {Path: "\ufffd"}},
	} {
		if ledger.Same(pair[0], pair[1]) || ledger.Same(pair[1], pair[0]) || !ledger.Same(pair[1], pair[1]) {
			t.Errorf("%+v and %+v", pair[0], pair[1])
		}
	}
}

// P14.1 (N7): Same as equality field by field, for records that differ in little or nothing.
func TestSameAsEqual(t *testing.T) {
	g := rand.New(rand.NewSource(12))
	same := 0
	for range 10000 {
		r := someRecord(g)
		other := copyOf(r, g.Intn(2) == 0)
		if g.Intn(2) == 0 {
			f := pick(g, fields(&other))
			other = set(other, f.name, someValue(g, f))
		}
		if got := ledger.Same(r, other); got != equal(r, other) {
			t.Fatalf("%+v and %+v: %v", r, other, got)
		}
		if ledger.Same(r, other) {
			same++
		}
	}
	if same < 4000 || same > 8000 {
		t.Errorf("%d were the same", same)
	}
}

// P14.1 (N7): lists without records that are nil and that are not, equal ones, a beginning, a longer one, and such as differ in a record.
func TestPrefix(t *testing.T) {
	var none []api.Record
	wrong := api.Record{Kind: 77, Ops: []api.Op{{}}}
	for _, c := range []struct {
		a, b []api.Record
		is   bool
	}{
		{none, none, true},
		{none, []api.Record{}, true},
		{[]api.Record{}, none, true},
		{[]api.Record{}, []api.Record{}, true},
		{none, ticks(1), true},
		{[]api.Record{}, ticks(1), true},
		{ticks(1), none, false},
		{ticks(1), []api.Record{}, false},
		{ticks(1), ticks(1), true},
		{ticks(1), ticks(2), false},
		{ticks(1, 2), ticks(1, 2, 3), true},
		{ticks(1, 2, 3), ticks(1, 2), false},
		{ticks(1, 2, 3), ticks(1, 2, 3), true},
		{ticks(1, 2, 3), ticks(1, 2, 4), false},
		{ticks(1, 2, 4), ticks(1, 2, 3, 4), false},
		{ticks(0, 2), ticks(1, 2), false},
		{ticks(2), ticks(1, 2), false},
		{ticks(1, 3), ticks(1, 2, 3), false},
		{[]api.Record{wrong}, []api.Record{wrong, wrong}, true},
		{[]api.Record{wrong}, []api.Record{{Kind: 77, Ops: []api.Op{{Acl: []api.Ace{}}}}}, true},
		{[]api.Record{wrong}, []api.Record{{Kind: 77}}, false},
		{[]api.Record{{}}, none, false},
		{[]api.Record{{}}, []api.Record{{}}, true},
	} {
		if ledger.Prefix(c.a, c.b) != c.is {
			t.Errorf("%+v and %+v: %v", c.a, c.b, !c.is)
		}
	}
}

// P14.1 (N7): all beginnings of a log, and these with another record somewhere.
func TestPrefixes(t *testing.T) {
	l := plain()
	for n := range len(l) + 1 {
		begin := slices.Clone(l[:n])
		if !ledger.Prefix(begin, l) || !ledger.Prefix(copyOf(begin, false), l) || ledger.Prefix(l, begin) != (n == len(l)) {
			t.Fatalf("%d records", n)
		}
		for i := range begin {
			other := slices.Clone(begin)
			other[i].M++
			if ledger.Prefix(other, l) || ledger.Prefix(begin, slices.Concat(other, l[n:])) {
				t.Fatalf("%d records, of which %d is another one", n, i)
			}
		}
		if ledger.Prefix(append(begin, api.Record{}), l) {
			t.Fatalf("%d records, and one more", n)
		}
	}
}

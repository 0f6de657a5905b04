package ledger_test

import (
	"bytes"
	"crypto/sha3"
	"encoding/binary"
	"math"
	"math/rand"
	"reflect"
	"regexp"
	"slices"
	"strings"
	"testing"

	"burgage/acl"
	"burgage/api"
	"burgage/ledger"
	"burgage/tree"
)

// most is the greatest number that is small.
const most = 1000000000

// odd are numbers that are small in no case.
var odd = []int{math.MinInt, math.MinInt + 1, math.MinInt32, -2, -1, most + 1, math.MaxInt32, 1 << 32, 1 << 62, math.MaxInt - 1, math.MaxInt}

func pick[T any](g *rand.Rand, l []T) T { return l[g.Intn(len(l))] }

// field is a field of a record that is no struct itself, with its name.
type field struct {
	name  string
	value reflect.Value
}

func fieldsIn(v reflect.Value, name string) []field {
	if v.Kind() != reflect.Struct {
		return []field{{name, v}}
	}
	var l []field
	for i := range v.NumField() {
		l = append(l, fieldsIn(v.Field(i), strings.TrimPrefix(name+"."+v.Type().Field(i).Name, "."))...)
	}
	return l
}

// fields returns all fields of a record, which can be set.
func fields(r *api.Record) []field { return fieldsIn(reflect.ValueOf(r).Elem(), "") }

// set returns r with another value of a field. Numbers are ints.
func set(r api.Record, name string, value any) api.Record {
	for _, f := range fields(&r) {
		if f.name == name {
			f.value.Set(reflect.ValueOf(value))
			return r
		}
	}
	panic("no field " + name)
}

// isEmpty reports whether a field has its zero value; lists without elements have.
func isEmpty(v reflect.Value) bool {
	return v.IsZero() || v.Kind() == reflect.Slice && v.Len() == 0
}

// Which values the fields have.
func isSmall(v any) bool  { return 0 <= v.(int) && v.(int) <= most }
func isPerson(v any) bool { return 0 <= v.(int) && v.(int) <= 999 }
func isOwner(v any) bool  { return -1 <= v.(int) && v.(int) <= 999 }
func isName(v any) bool {
	return regexp.MustCompile(`^[a-zA-Z0-9._~-]{1,16}$`).MatchString(v.(string)) && v != "." && v != ".."
}

func isPath(v any) bool {
	l := strings.Split(v.(string), "/")
	return v == "" || len(l) <= 8 && !slices.ContainsFunc(l, func(n string) bool { return !isName(n) })
}

func isOp(x api.Op) bool {
	return 1 <= x.Kind && x.Kind <= 16 && isPerson(x.Who) && isPath(x.Path) && isPath(x.To) && isSmall(x.Off) && isSmall(x.N) && isSmall(x.Id) && acl.Valid(x.Acl)
}

func areOps(v any) bool {
	l := v.([]api.Op)
	return len(l) <= 400 && !slices.ContainsFunc(l, func(x api.Op) bool { return !isOp(x) })
}

// isAny is for fields that are looked at together with others.
func isAny(any) bool { return true }

// checks says which values a field may have, by its name.
type checks map[string]func(any) bool

// own is the table of the chapter: for each kind, the fields that it has.
var own = map[int]checks{
	api.DoOp:     {"Op.Kind": isAny, "Op.Who": isAny, "Op.Path": isAny, "Op.To": isAny, "Op.Off": isAny, "Op.N": isAny, "Op.Id": isAny, "Op.Acl": isAny},
	api.TakeSnap: {"Name": isName},
	api.Release:  {"N": isSmall},
	api.Clone:    {"N": isSmall, "Path": isPath, "Op.Who": isPerson, "Op.Path": isPath},
	api.Retain:   {"Path": isPath, "N": isSmall},
	api.Erase:    {"Path": isPath, "N": isSmall},
	api.Destroy:  {"N": isSmall},
	api.Ack:      {"N": isSmall, "M": isSmall},
	api.Close:    {"N": isSmall},
	api.SetLimit: {"Limit.Owner": isOwner, "Limit.Max.Nodes": isSmall, "Limit.Max.Bytes": isSmall},
	api.Tick:     {"N": isSmall},
	api.Lend:     {"Path": isPath, "N": isSmall, "Limit.Owner": isOwner, "Limit.Max.Nodes": isSmall, "Limit.Max.Bytes": isSmall, "Op.Who": isPerson},
	api.Return:   {"N": isSmall, "Ops": areOps},
	api.Give:     {"Path": isPath, "Tx": isSmall},
	api.Take:     {"Path": isPath, "Tx": isSmall, "Tree.Nodes": isAny, "Tree.Next": isAny, "Tree.Opens": isAny},
}

// kinds are all kinds of records.
var kinds = []int{1, 2, 3, 4, 5, 6, 7, 8, 9, 10, 11, 12, 13, 14, 15}

// right says as the chapter does whether a record is right.
func right(r api.Record) bool {
	has, is := own[r.Kind]
	for _, f := range fields(&r)[1:] {
		if may := has[f.name]; may == nil && !isEmpty(f.value) || may != nil && !may(f.value.Interface()) {
			return false
		}
	}
	return is && (r.Kind != api.DoOp || isOp(r.Op)) && (r.Kind != api.Take || tree.Valid(r.Tree))
}

func eight(n int) []byte { return binary.BigEndian.AppendUint64(nil, uint64(n)) }

// content says as the chapter does which content a value has, by looking at its declaration.
func content(v reflect.Value) []byte {
	var b []byte
	switch v.Kind() {
	case reflect.Int:
		return eight(int(v.Int()))
	case reflect.Bool:
		if v.Bool() {
			return eight(1)
		}
		return eight(0)
	case reflect.String:
		return append(eight(v.Len()), v.String()...)
	case reflect.Slice:
		b = eight(v.Len())
		for i := range v.Len() {
			b = append(b, content(v.Index(i))...)
		}
		return b
	case reflect.Struct:
		for i := range v.NumField() {
			b = append(b, content(v.Field(i))...)
		}
		return b
	}
	panic(v.Kind())
}

func contentOf(r api.Record) []byte { return content(reflect.ValueOf(r)) }

// framed returns a content, whatever it is, with its length and its hash.
func framed(c []byte) []byte {
	sum := sha3.Sum256(c)
	return slices.Concat(binary.BigEndian.AppendUint32(nil, uint32(len(c))), sum[:4], c)
}

// bytesOf says as the chapter does which bytes a record has.
func bytesOf(r api.Record) []byte {
	if !right(r) {
		return nil
	}
	return framed(contentOf(r))
}

// equal reports whether two values are equal; a list that is nil is equal to one without elements.
func equal(a, b any) bool {
	v, w := reflect.ValueOf(a), reflect.ValueOf(b)
	return v.Type() == w.Type() && equalValues(v, w)
}

func equalValues(v, w reflect.Value) bool {
	switch v.Kind() {
	case reflect.Slice:
		if v.Len() != w.Len() {
			return false
		}
		for i := range v.Len() {
			if !equalValues(v.Index(i), w.Index(i)) {
				return false
			}
		}
		return true
	case reflect.Struct:
		for i := range v.NumField() {
			if !equalValues(v.Field(i), w.Field(i)) {
				return false
			}
		}
		return true
	}
	return v.Interface() == w.Interface()
}

// decode reads a value from the beginning of b, and returns what is left; it accepts more than the chapter does.
func decode(v reflect.Value, b []byte) ([]byte, bool) {
	if v.Kind() == reflect.Struct {
		for i := range v.NumField() {
			var is bool
			if b, is = decode(v.Field(i), b); !is {
				return nil, false
			}
		}
		return b, true
	}
	if len(b) < 8 {
		return nil, false
	}
	n := binary.BigEndian.Uint64(b)
	b = b[8:]
	switch v.Kind() {
	case reflect.Int:
		v.SetInt(int64(n))
	case reflect.Bool:
		v.SetBool(n != 0)
	case reflect.String:
		if n > uint64(len(b)) {
			return nil, false
		}
		v.SetString(string(b[:n]))
		b = b[n:]
	case reflect.Slice:
		for range n {
			x := reflect.New(v.Type().Elem()).Elem()
			var is bool
			if b, is = decode(x, b); !is {
				return nil, false
			}
			v.Set(reflect.Append(v, x))
		}
	}
	return b, true
}

// parsed says as the chapter does with which record b begins: one that has these very bytes.
func parsed(b []byte) (api.Record, int, api.Errno) {
	var r api.Record
	if len(b) < 8 {
		return r, 0, api.ErrRecord
	}
	n := int(binary.BigEndian.Uint32(b))
	if n > len(b)-8 {
		return r, 0, api.ErrRecord
	}
	if _, is := decode(reflect.ValueOf(&r).Elem(), b[8:8+n]); !is || !right(r) || string(bytesOf(r)) != string(b[:8+n]) {
		return api.Record{}, 0, api.ErrRecord
	}
	return r, 8 + n, api.OK
}

// deep is a path of 8 names of 16 bytes.
const deep = "abcdefghijklmnop/qrstuvwxyzABCDEF/GHIJKLMNOPQRSTUV/WXYZ0123456789._/-~-~-~-~-~-~-~-~/.aaaaaaaaaaaaaaa/aaaaaaaaaaaaaaa./0000000000000000"

// Texts of which records are made.
var (
	paths   = []string{"", "a", "a/b", "x~trip~1", "a/b/c/d/e/f/g/h", deep, "..."}
	noPaths = []string{"/", "/a", "a/", "a//b", ".", "..", "a/..", "a/b/c/d/e/f/g/h/i", deep + "/a", "ä", "a b", "a\x00", "a\n", "abcdefghijklmnopq"}
	names   = []string{"a", "Z", "0", "...", "~", "a-b_c.d~e", "abcdefghijklmnop"}
	noNames = []string{"", "/", "a/b", ".", "..", "ä", "a b", "a\x00", "a\n", "abcdefghijklmnopq", deep}
)

// Access lists.
var (
	some    = []api.Ace{{Who: api.TheOwner, Allow: true, Rights: 15, Reach: api.Both}, {Who: 999, Rights: 1, Reach: api.Under}, {Who: api.Everyone, Allow: true, Rights: 7, Reach: api.Here, Given: true}}
	lists   = [][]api.Ace{nil, {}, some, some[1:2], full(16)}
	noLists = [][]api.Ace{{{}}, full(17), {some[2], some[0]}, {some[0], some[0]}, {{Who: 1000, Rights: 1, Reach: 1}}, {{Who: 5, Rights: 16, Reach: 1}}, {{Who: 5, Rights: 1, Reach: 4}}}
)

// full returns a list of n entries.
func full(n int) []api.Ace {
	var l []api.Ace
	for i := range n {
		l = append(l, api.Ace{Who: i, Allow: i%2 == 0, Rights: 1 + i%15, Reach: 1 + i%3})
	}
	return l
}

// sample is a tree with lists of all sorts.
func sample() api.Tree {
	return api.Tree{
		Nodes: []api.Node{
			{Id: 1, Kind: api.Dir, Owner: 5, Acl: []api.Ace{{Who: -1, Allow: true, Rights: 7, Reach: 2}}, List: []api.Entry{{Name: "d", Id: 2}, {Name: "f", Id: 3}}, Links: 1, Ver: 9},
			{Id: 2, Kind: api.Dir, Links: 1},
			{Id: 3, Kind: api.File, Owner: 8, Body: []api.Piece{{N: 3}, {Id: 7, From: 4, N: 5}, {Id: -1, N: 1}}, Links: 1, Ver: 2},
			{Id: 6, Kind: api.File, Owner: 1},
		},
		Next:  7,
		Opens: []api.Open{{Node: 3, Who: 5}, {Node: 6, Who: 0}},
	}
}

// trees are valid.
func trees() []api.Tree {
	linked := tree.New(999)
	for i, x := range []api.Op{{Kind: api.Mkdir, Path: "a"}, {Kind: api.Create, Path: "a/b"}, {Kind: api.Write, Path: "a/b", Id: 4095, N: 1 << 20}, {Kind: api.Link, Path: "a/b", To: "c"}, {Kind: api.SetAcl, Path: "a", Acl: some[:2]}, {Kind: api.Create, Path: "a/g"}, {Kind: api.OpenFile, Path: "c", Who: 0}} {
		linked, _ = tree.Do(linked, x, i+1)
	}
	great, mixed := tree.New(1), tree.New(2)
	great.Next, great.Nodes[0].Ver = math.MaxInt, math.MaxInt
	mixed.Next, mixed.Nodes[0].Ver = 0x7766554433221100, 0x0102030405060708
	return []api.Tree{tree.New(0), sample(), linked, great, mixed}
}

// noTrees are not valid.
func noTrees() []api.Tree {
	l := []api.Tree{{}, {Next: 2}, {Nodes: []api.Node{{}}}}
	for _, change := range []func(t *api.Tree){
		func(t *api.Tree) { t.Next = 6 },
		func(t *api.Tree) { t.Opens = t.Opens[:1] },
		func(t *api.Tree) { t.Nodes[0].Ver = -1 },
		func(t *api.Tree) { t.Nodes[2].Links = 2 },
		func(t *api.Tree) { t.Nodes[2].Body[0].N = 1 << 20 },
		func(t *api.Tree) { t.Nodes[1].Acl = []api.Ace{{}} },
		func(t *api.Tree) { t.Nodes[0].List[0].Name = "d/" },
		func(t *api.Tree) { t.Nodes = t.Nodes[1:] },
	} {
		t := sample()
		change(&t)
		l = append(l, t)
	}
	return l
}

// someOp returns an operation that is right.
func someOp(g *rand.Rand) api.Op {
	return api.Op{Kind: 1 + g.Intn(16), Who: someOne(g), Path: pick(g, paths), To: pick(g, paths), Off: small(g), N: small(g), Id: small(g), Acl: pick(g, lists)}
}

func someOne(g *rand.Rand) int { return pick(g, []int{0, 1, 5, 256, 999, g.Intn(1000)}) }
func small(g *rand.Rand) int   { return pick(g, []int{0, 0, 1, 255, 256, 65536, most, g.Intn(most)}) }

func someLimit(g *rand.Rand) api.Limit {
	return api.Limit{Owner: pick(g, []int{-1, someOne(g)}), Max: api.Use{Nodes: small(g), Bytes: small(g)}}
}

// someRight returns a record of this kind that is right.
func someRight(g *rand.Rand, kind int) api.Record {
	r := api.Record{Kind: kind}
	for name := range own[kind] {
		switch name {
		case "N", "M", "Tx":
			r = set(r, name, small(g))
		case "Path", "Op.Path":
			r = set(r, name, pick(g, paths))
		case "Op.Who":
			r.Op.Who = someOne(g)
		case "Name":
			r.Name = pick(g, names)
		case "Limit.Owner":
			r.Limit = someLimit(g)
		case "Op.Kind":
			r.Op.Kind = 1
		case "Ops":
			for range g.Intn(5) {
				r.Ops = append(r.Ops, someOp(g))
			}
		case "Tree.Nodes":
			r.Tree = pick(g, trees())
		}
	}
	if kind == api.DoOp {
		r.Op = someOp(g)
	}
	return r
}

// someValue returns a value for a field with this name, which is often none that it may have.
func someValue(g *rand.Rand, f field) any {
	switch f.value.Interface().(type) {
	case int:
		return pick(g, append([]int{0, 1, 14, 15, 16, 17, 999, 1000, most}, odd...))
	case string:
		return pick(g, slices.Concat(paths, noPaths, names))
	case []api.Ace:
		return pick(g, append(lists, noLists...))
	case []api.Op:
		return pick(g, [][]api.Op{nil, {}, {{}}, {someOp(g)}, {someOp(g), {Kind: 17}}, {{Kind: 1, N: -1}}})
	case []api.Node:
		return pick(g, append(noTrees(), trees()...)).Nodes
	case []api.Open:
		return pick(g, [][]api.Open{nil, {}, {{}}, sample().Opens})
	}
	panic(f.name)
}

// someRecord returns a record, about a half of which are right.
func someRecord(g *rand.Rand) api.Record {
	r := someRight(g, pick(g, kinds))
	if g.Intn(2) == 0 {
		for range 1 + g.Intn(2) {
			f := pick(g, fields(&r))
			r = set(r, f.name, someValue(g, f))
		}
	}
	return r
}

// rights are right records of all kinds, all of them different.
func rights() []api.Record {
	g := rand.New(rand.NewSource(1))
	l := []api.Record{tick(5), {Kind: api.TakeSnap, Name: "a"}}
	for range 20 {
		for _, kind := range kinds {
			if r := someRight(g, kind); !slices.ContainsFunc(l, func(x api.Record) bool { return equal(x, r) }) {
				l = append(l, r)
			}
		}
	}
	return l
}

// tick is a record that is right for small numbers only.
func tick(n int) api.Record { return api.Record{Kind: api.Tick, N: n} }

// ticks returns a log.
func ticks(l ...int) []api.Record {
	var log []api.Record
	for _, n := range l {
		log = append(log, tick(n))
	}
	return log
}

// expect asks Valid and Bytes about a record, and Parse about its content; isRight says what they should find.
func expect(t *testing.T, r api.Record, isRight bool) {
	t.Helper()
	if right(r) != isRight || ledger.Valid(r) != isRight {
		t.Fatalf("%+v should be right: %v; the table says %v, and Valid %v", r, isRight, right(r), ledger.Valid(r))
	}
	all := framed(contentOf(r))
	b := ledger.Bytes(r)
	got, n, e := ledger.Parse(all)
	if isRight && (!bytes.Equal(b, all) || !equal(got, r) || n != len(all) || e != api.OK) {
		t.Fatalf("%+v has the bytes %x, and is read as %+v, %d, %v", r, b, got, n, e)
	}
	if !isRight && (len(b) > 0 || !equal(got, api.Record{}) || n != 0 || e != api.ErrRecord) {
		t.Fatalf("%+v, which is not right, has the bytes %x, and is read as %+v, %d, %v", r, b, got, n, e)
	}
}

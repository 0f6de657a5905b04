package ledger_test

import (
	"bytes"
	"math/rand"
	"reflect"
	"slices"
	"sync"
	"testing"

	"burgage/api"
	"burgage/ledger"
)

// question has arguments for all functions.
type question struct {
	r    api.Record
	l, m []api.Record
	b    []byte
}

// answers has the results of all functions for some arguments.
type answers struct {
	Valid, Same, Prefix bool
	Bytes, Join         []byte
	Read                api.Record
	N                   int
	E                   api.Errno
	Cut                 []api.Record
	Chain               api.Sum
}

// ask asks all functions.
func (q question) ask() answers {
	a := answers{Valid: ledger.Valid(q.r), Bytes: ledger.Bytes(q.r), Join: ledger.Join(q.l), Cut: ledger.Cut(q.b), Chain: ledger.Chain(q.l), Prefix: ledger.Prefix(q.l, q.m)}
	a.Read, a.N, a.E = ledger.Parse(q.b)
	for _, x := range q.l {
		a.Same = a.Same || ledger.Same(q.r, x)
	}
	return a
}

// expected says as the chapter does what the answers are.
func (q question) expected() answers {
	a := answers{Valid: right(q.r), Bytes: bytesOf(q.r), Join: joined(q.l), Chain: chainOf(q.l), Prefix: len(q.l) <= len(q.m)}
	a.Read, a.N, a.E = parsed(q.b)
	for b := q.b; ; {
		x, n, e := parsed(b)
		if e != api.OK {
			break
		}
		a.Cut = append(a.Cut, x)
		b = b[n:]
	}
	for i, x := range q.l {
		a.Same = a.Same || equal(q.r, x)
		a.Prefix = a.Prefix && equal(x, q.m[i])
	}
	return a
}

// someQuestion returns arguments of all sorts.
func someQuestion(g *rand.Rand) question {
	q := question{r: someRecord(g)}
	for range g.Intn(4) {
		q.l = append(q.l, pick(g, []api.Record{q.r, someRecord(g)}))
	}
	q.m = append(slices.Clone(q.l), someRecord(g))[g.Intn(2):]
	switch q.b = joined(append(q.l, q.r)); g.Intn(4) {
	case 0:
		q.b = framed(contentOf(q.r))
	case 1:
		q.b = q.b[:g.Intn(len(q.b)+1)]
	case 2:
		if len(q.b) > 0 {
			q.b[g.Intn(len(q.b))]++
		}
	}
	return q
}

// stray is a value that shows where nothing should be.
func stray(t reflect.Type) reflect.Value {
	v := reflect.New(t).Elem()
	switch t.Kind() {
	case reflect.Int:
		v.SetInt(99)
	case reflect.Uint8:
		v.SetUint(99)
	case reflect.Bool:
		v.SetBool(true)
	case reflect.String:
		v.SetString("stray")
	case reflect.Struct:
		for i := range t.NumField() {
			v.Field(i).Set(stray(t.Field(i).Type))
		}
	}
	return v
}

// watcher knows lists with room about them, and what all of their memory had.
type watcher struct{ lists, kept []reflect.Value }

// roomy returns a copy of a value whose lists all have room before and behind them, in which strays show.
func (w *watcher) roomy(v reflect.Value) reflect.Value {
	c := reflect.New(v.Type()).Elem()
	switch v.Kind() {
	case reflect.Slice:
		n := v.Len()
		list := reflect.MakeSlice(v.Type(), n+10, n+10)
		for i := range n + 10 {
			if 5 <= i && i < 5+n {
				list.Index(i).Set(w.roomy(v.Index(i - 5)))
			} else {
				list.Index(i).Set(stray(v.Type().Elem()))
			}
		}
		w.lists, w.kept = append(w.lists, list), append(w.kept, copied(list, false))
		c.Set(list.Slice(5, 5+n))
	case reflect.Struct:
		for i := range v.NumField() {
			c.Field(i).Set(w.roomy(v.Field(i)))
		}
	default:
		c.Set(v)
	}
	return c
}

// unchanged reports whether all memory is what it was.
func (w *watcher) unchanged() bool {
	for i, l := range w.lists {
		if !equalValues(l, w.kept[i]) {
			return false
		}
	}
	return true
}

func roomy[T any](w *watcher, x T) T { return w.roomy(reflect.ValueOf(x)).Interface().(T) }

// spoil writes strays to all memory of the lists of a value, and returns where that begins and ends.
func spoil(v reflect.Value) [][2]uintptr {
	var l [][2]uintptr
	switch v.Kind() {
	case reflect.Slice:
		all := v.Slice(0, v.Cap())
		for i := range all.Len() {
			l = append(l, spoil(all.Index(i))...)
			all.Index(i).Set(stray(v.Type().Elem()))
		}
		if all.Len() > 0 {
			l = append(l, [2]uintptr{v.Pointer(), v.Pointer() + uintptr(v.Cap())*v.Type().Elem().Size()})
		}
	case reflect.Struct:
		for i := range v.NumField() {
			l = append(l, spoil(v.Field(i))...)
		}
	}
	return l
}

// apart reports whether no two ranges of memory have some in common.
func apart(l [][2]uintptr) bool {
	slices.SortFunc(l, func(a, b [2]uintptr) int { return int(a[0]) - int(b[0]) })
	for i := range l {
		if i > 0 && l[i-1][1] > l[i][0] {
			return false
		}
	}
	return true
}

// N8 (P14.1), and P2 of the document: no argument is modified, nor the memory about it, the same arguments have the same results, and these are new memory.
func TestArguments(t *testing.T) {
	g := rand.New(rand.NewSource(13))
	read, joint := 0, 0
	for range 2000 {
		q := someQuestion(g)
		want := q.expected()
		var w watcher
		watched := question{r: roomy(&w, q.r), l: roomy(&w, q.l), m: roomy(&w, q.m), b: roomy(&w, q.b)}
		for range 2 {
			got := watched.ask()
			if !equalAnswers(got, want) {
				t.Fatalf("%+v: %+v, not %+v", q, got, want)
			}
			if !apart(spoil(reflect.ValueOf(&got).Elem())) || !w.unchanged() {
				t.Fatalf("%+v: an argument has changed, or results share memory", q)
			}
		}
		if want.E == api.OK {
			read++
		}
		if len(want.Join) > 0 {
			joint++
		}
	}
	if read < 500 || joint < 500 {
		t.Errorf("%d were read, and %d were written", read, joint)
	}
}

func equalAnswers(a, b answers) bool {
	return a.Valid == b.Valid && a.Same == b.Same && a.Prefix == b.Prefix && bytes.Equal(a.Bytes, b.Bytes) && bytes.Equal(a.Join, b.Join) &&
		equal(a.Read, b.Read) && a.N == b.N && a.E == b.E && equal(a.Cut, b.Cut) && a.Chain == b.Chain
}

// P1 and P2 of the document: nil and empty lists are the same.
func TestNilAndEmpty(t *testing.T) {
	for _, r := range append(plain(), whole(), api.Record{}, api.Record{Kind: api.Return}, api.Record{Kind: api.DoOp, Op: api.Op{Kind: api.Stat}}) {
		with := question{r: copyOf(r, false), l: []api.Record{copyOf(r, false)}, m: []api.Record{copyOf(r, false)}, b: bytesOf(r)}
		without := question{r: copyOf(r, true), l: []api.Record{copyOf(r, true)}, m: []api.Record{copyOf(r, true)}, b: bytesOf(r)}
		if a, b := with.ask(), without.ask(); !equalAnswers(a, b) || !a.Same || !a.Prefix {
			t.Errorf("%+v: %+v, and %+v", r, a, b)
		}
	}
	with := question{l: []api.Record{}, m: []api.Record{}, b: []byte{}}
	if a, b := with.ask(), (question{}).ask(); !equalAnswers(a, b) || len(a.Join)+len(a.Cut) > 0 || a.Chain != (api.Sum{}) || !a.Prefix {
		t.Errorf("%+v, and %+v", a, b)
	}
}

// P1 of the document: all records are accepted, with numbers and lists of any kind; and with an error, other results are zero values.
func TestAllValues(t *testing.T) {
	g := rand.New(rand.NewSource(14))
	for range 3000 {
		r := someRecord(g)
		for _, f := range fields(&r) {
			if g.Intn(3) == 0 {
				r = set(r, f.name, someValue(g, f))
			}
		}
		q := question{r: r, l: []api.Record{r, whole(), r}, m: []api.Record{r}, b: framed(contentOf(r))}
		if got, want := q.ask(), q.expected(); !equalAnswers(got, want) || got.E != api.OK && (got.N != 0 || !equal(got.Read, api.Record{})) {
			t.Fatalf("%+v: %+v, not %+v", q, got, want)
		}
	}
}

// P1 of the document: a long log, and long bytes that are none.
func TestLongLogs(t *testing.T) {
	l := make([]api.Record, 20000)
	for i := range l {
		l[i] = tick(i)
	}
	b := ledger.Join(l)
	if got := ledger.Cut(b); len(b) != 176*len(l) || len(got) != len(l) || !ledger.Prefix(got, l) || !ledger.Prefix(l, got) || ledger.Chain(got) != ledger.Chain(l) {
		t.Errorf("%d bytes, %d records", len(b), len(got))
	}
	for _, b := range [][]byte{make([]byte, 1<<20), bytes.Repeat([]byte{255}, 1<<20), append([]byte{0, 15, 255, 248}, make([]byte, 1<<20-4)...), framed(make([]byte, 1<<20))} {
		if got := ledger.Cut(b); len(got) > 0 {
			t.Errorf("%d records", len(got))
		}
		refused(t, b)
	}
	// A list of a million elements, each of them with less than there is.
	c := contentOf(tick(5))
	refused(t, framed(slices.Concat(replaced(c, 136, 1<<17)[:144], make([]byte, 64<<17), c[144:])))
}

// P2 of the document: what is asked at the same time does not matter.
func TestAtOnce(t *testing.T) {
	shared := plain()
	b := ledger.Join(shared)
	wrong := make([]bool, 8)
	var wait sync.WaitGroup
	for i := range wrong {
		q := question{r: shared[i], l: shared, m: shared, b: b[len(ledger.Join(shared[:i])):]}
		want := q.ask()
		wait.Go(func() {
			for range 30 {
				wrong[i] = wrong[i] || !equalAnswers(q.ask(), want)
			}
		})
	}
	wait.Wait()
	if slices.Contains(wrong, true) {
		t.Error("there were other results")
	}
}

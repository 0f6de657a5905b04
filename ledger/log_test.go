package ledger_test

import (
	"bytes"
	"math/rand"
	"slices"
	"testing"

	"burgage/api"
	"burgage/ledger"
)

// joined returns the bytes of all records, one after the other.
func joined(l []api.Record) []byte {
	var b []byte
	for _, r := range l {
		b = append(b, bytesOf(r)...)
	}
	return b
}

// someLog returns a log of up to n records, all of them right.
func someLog(g *rand.Rand, n int) []api.Record {
	var l []api.Record
	for range g.Intn(n + 1) {
		l = append(l, someRight(g, pick(g, kinds)))
	}
	return l
}

// P14.1 (N4, N5), P14.3: logs are read from their bytes.
func TestLogs(t *testing.T) {
	g := rand.New(rand.NewSource(6))
	logs := [][]api.Record{nil, {}, ticks(5), ticks(5, 5, 5), plain(), rights()}
	for range 300 {
		logs = append(logs, someLog(g, 12))
	}
	for _, l := range logs {
		b := ledger.Join(l)
		if !bytes.Equal(b, joined(l)) {
			t.Fatalf("%+v: %x", l, b)
		}
		if got := ledger.Cut(b); !equal(got, l) && len(got)+len(l) > 0 {
			t.Fatalf("%x: %+v", b, got)
		}
	}
}

// P14.1 (N4): records that are not right have no bytes, so they are passed over.
func TestJoinWrong(t *testing.T) {
	wrong := api.Record{Kind: api.Tick, N: 5, M: 1}
	for _, l := range [][]api.Record{{wrong}, {wrong, {}, wrong}} {
		if b := ledger.Join(l); len(b) > 0 {
			t.Errorf("%+v: %x", l, b)
		}
	}
	l := append([]api.Record{wrong, {}}, ticks(1, 2)...)
	l = append(append(l, wrong), ticks(3)...)
	b := ledger.Join(append(l, wrong))
	if !bytes.Equal(b, joined(ticks(1, 2, 3))) || !equal(ledger.Cut(b), ticks(1, 2, 3)) {
		t.Errorf("%x", b)
	}
	g := rand.New(rand.NewSource(7))
	for range 300 {
		var all, good []api.Record
		for range g.Intn(9) {
			r := someRecord(g)
			if all = append(all, r); right(r) {
				good = append(good, r)
			}
		}
		if b := ledger.Join(all); !bytes.Equal(b, joined(good)) || !equal(ledger.Cut(b), good) {
			t.Fatalf("%+v: %x", all, b)
		}
	}
}

// P14.1 (N5): bytes that are none of a log.
func TestCutNothing(t *testing.T) {
	for _, b := range [][]byte{nil, {}, {0}, make([]byte, 8), make([]byte, 176), bytes.Repeat([]byte{255}, 200), framed(nil), framed(make([]byte, 168))} {
		if l := ledger.Cut(b); len(l) > 0 {
			t.Errorf("%x: %+v", b, l)
		}
	}
}

// P14.1 (N5), P14.3, P14.5: the bytes of a log up to anywhere: the records that are there as a whole are read, and these are a beginning of the log.
func TestCutEnds(t *testing.T) {
	l := append(ticks(1, 2), plain()...)
	b := ledger.Join(l)
	whole, end := 0, len(ledger.Bytes(l[0]))
	for n := range len(b) + 1 {
		if n == end {
			whole++
			if whole < len(l) {
				end += len(ledger.Bytes(l[whole]))
			}
		}
		if got := ledger.Cut(b[:n]); len(got) != whole || !equal(got, l[:whole]) && whole > 0 || !ledger.Prefix(got, l) {
			t.Fatalf("%d bytes: %+v", n, got)
		}
	}
	if whole != len(l) {
		t.Errorf("%d of %d records", whole, len(l))
	}
}

// P14.3, P14.6: a log with a damaged record at its beginning, in its middle and at its end: what comes after it is not read, wherever the damage is.
func TestDamagedLogs(t *testing.T) {
	l := []api.Record{tick(1), {Kind: api.TakeSnap, Name: "ab"}, {Kind: api.Give, Path: "a/b", Tx: 3}, tick(2), tick(3)}
	b := ledger.Join(l)
	at := 0
	for i, r := range l {
		size := len(ledger.Bytes(r))
		for j := range size {
			for _, flip := range []byte{1, 128, 255} {
				damaged := slices.Clone(b)
				damaged[at+j] ^= flip
				if got := ledger.Cut(damaged); len(got) != i || !ledger.Prefix(got, l) {
					t.Fatalf("the byte %d of the record %d: %+v", j, i, got)
				}
			}
		}
		at += size
	}
}

// P14.1 (N5), P14.3: other bytes before, between and behind records.
func TestCutBetween(t *testing.T) {
	one, two := ledger.Bytes(tick(1)), ledger.Bytes(tick(2))
	wrong := framed(contentOf(api.Record{Kind: api.Tick, N: 5, M: 1}))
	for _, c := range []struct {
		b []byte
		l []api.Record
	}{
		{slices.Concat(wrong, one, two), nil},
		{slices.Concat(one, wrong, two), ticks(1)},
		{slices.Concat(one, two, wrong), ticks(1, 2)},
		{slices.Concat([]byte{0}, one, two), nil},
		{slices.Concat(one, []byte{0}, two), ticks(1)},
		{slices.Concat(one, two, []byte{0}), ticks(1, 2)},
		{slices.Concat(one, framed(nil), two), ticks(1)},
		{slices.Concat(one[1:], two), nil},
		{slices.Concat(one, two[:100], one), ticks(1)},
		{slices.Concat(one, one, two, one), ticks(1, 1, 2, 1)},
	} {
		if got := ledger.Cut(c.b); len(got) != len(c.l) || len(got) > 0 && !equal(got, c.l) {
			t.Errorf("%x: %+v", c.b, got)
		}
	}
}

// P14.6: of the bytes of a record, at each place, each other byte is seen.
func TestDamage(t *testing.T) {
	for _, r := range []api.Record{tick(5), {Kind: api.TakeSnap, Name: "abc"}, {Kind: api.Ack, N: most, M: 1}, {Kind: api.Lend, Path: "a/b", N: 9, Limit: api.Limit{Owner: -1}}} {
		b := ledger.Bytes(r)
		for i := range b {
			damaged := slices.Clone(b)
			for range 255 {
				damaged[i]++
				refused(t, damaged)
			}
		}
	}
	g := rand.New(rand.NewSource(8))
	for _, r := range append(plain(), rights()...) {
		b := ledger.Bytes(r)
		for i := range b {
			damaged := append(slices.Clone(b), make([]byte, 300)...)
			damaged[i] ^= byte(1 + g.Intn(255))
			refused(t, damaged)
			refused(t, damaged[:len(b)])
		}
	}
}

// P14.6: all four bytes of the hash are looked at, and no more, so damage that keeps them is not seen: two records that have the same ones.
func TestSameHash(t *testing.T) {
	a, b := ledger.Bytes(tick(56350)), ledger.Bytes(tick(80059))
	if !bytes.Equal(a[:8], b[:8]) || bytes.Equal(a, b) {
		t.Fatalf("%x and %x", a, b)
	}
	damaged := slices.Concat(a[:8], b[8:])
	if got, n, e := ledger.Parse(damaged); !equal(got, tick(80059)) || n != 176 || e != api.OK {
		t.Errorf("%x: %+v, %d, %v", damaged, got, n, e)
	}
}

// P14.5: a beginning of a log is one of its bytes, too, and the other way round.
func TestBeginnings(t *testing.T) {
	g := rand.New(rand.NewSource(9))
	for range 200 {
		l := someLog(g, 8)
		b := ledger.Join(l)
		for n := range len(l) + 1 {
			if !ledger.Prefix(l[:n], l) || !bytes.HasPrefix(b, ledger.Join(l[:n])) {
				t.Fatalf("%d of %+v", n, l)
			}
		}
		other := slices.Clone(l)
		for i := range other {
			if g.Intn(6) == 0 {
				other[i] = someRight(g, pick(g, kinds))
			}
		}
		other = append(other[:g.Intn(len(other)+1)], someLog(g, 1)...)
		if ledger.Prefix(other, l) != bytes.HasPrefix(b, ledger.Join(other)) {
			t.Fatalf("%+v, and %+v", other, l)
		}
	}
}

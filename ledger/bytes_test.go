package ledger_test

import (
	"bytes"
	"crypto/sha3"
	"encoding/hex"
	"math/rand"
	"slices"
	"testing"

	"burgage/api"
	"burgage/ledger"
	"burgage/tree"
)

// P14.1 (N2): the examples of the chapter.
func TestExamples(t *testing.T) {
	b := ledger.Bytes(api.Record{Kind: api.Tick, N: 5})
	if len(b) != 176 || !bytes.Equal(b[:4], []byte{0, 0, 0, 168}) {
		t.Errorf("Tick: %d bytes, %x", len(b), b)
	}
	if sum := sha3.Sum256(b[8:]); !bytes.Equal(b[4:8], sum[:4]) {
		t.Errorf("Tick: the hash is %x", b[4:8])
	}
	if b := ledger.Bytes(api.Record{Kind: api.Tick, N: 5, M: 1}); len(b) > 0 {
		t.Errorf("Tick with M: %x", b)
	}
	if b := ledger.Bytes(api.Record{Kind: api.TakeSnap, Name: "a"}); len(b) != 177 {
		t.Errorf("TakeSnap: %d bytes, %x", len(b), b)
	}
}

// written are records with bytes that another program wrote: how many, the first eight, and the hash of all.
var written = []struct {
	r         api.Record
	n         int
	head, sum string
}{
	{tick(5), 176, "000000a8a84e507f", "dff7f631b585f6f298fbcb375207d3b52dd22548cd78fd23a1ff5fa6e9696164"},
	{api.Record{Kind: api.TakeSnap, Name: "a"}, 177, "000000a921ea7917", "d302bd2052eca75b6ccd81c6b890ab1158cd1eca6833384acd298119be4b3891"},
	{
		api.Record{Kind: api.DoOp, Op: api.Op{Kind: api.SetAcl, Who: 7, Path: "a/b", Off: 1, N: 2, Id: 3, Acl: []api.Ace{{Who: -2, Allow: true, Rights: 15, Reach: 2}, {Who: 999, Rights: 1, Reach: 1, Given: true}}}},
		259, "000000fb150dbfbd", "a9ca49394b990176d4d03d30ccb7eca5fc18cbccd00529032c4932c82adb7dea",
	},
	{api.Record{Kind: api.SetLimit, Limit: api.Limit{Owner: -1, Max: api.Use{Nodes: 200, Bytes: most}}}, 176, "000000a8e8015fbb", "ccaf287ab7ffadde46e574f43a5ba335a8932e4bd41e1cfd2114d67181352315"},
	{api.Record{Kind: api.Clone, N: 3, Path: "x/~-_", Op: api.Op{Who: 999, Path: "a.b/c"}}, 186, "000000b28704a5e1", "bd7a9085f40c04fe6f551f2cbea7c90c6ed7bb64ad4a01eabaccac30b42d917f"},
	{api.Record{Kind: api.Lend, Path: "d", N: most, Limit: api.Limit{Owner: 4, Max: api.Use{Nodes: 1, Bytes: 2}}, Op: api.Op{Who: 12}}, 177, "000000a92a5ef00b", "8eb964e1586d85ca653ecc47e32838d0b110ac1d49b72df325aec3a6eae59f3c"},
	{api.Record{Kind: api.Return, N: 2, Ops: []api.Op{{Kind: api.Mkdir, Who: 5, Path: "m"}, {Kind: api.Rename, Path: "m", To: "n/o"}}}, 309, "0000012d494a95a4", "626032efee4bb31eda02073df0433c7051e2a3bd3e9f2a2cd42bad13b0907f30"},
	{api.Record{Kind: api.Take, Path: "in", Tx: 70, Tree: sample()}, 612, "0000025c270b0d85", "4983ed543ddbb8f2373289e7fd9eb5fd7466252d365b6cebc0b1576b51568b12"},
	{api.Record{Kind: api.Ack, N: 1, M: 4}, 176, "000000a8c4ba1052", "60e4cee7a4c901272344c38c12f06dc992a5376282b767a50639816841e22110"},
	{api.Record{Kind: api.Give, Path: "a", Tx: 1}, 177, "000000a9fbbfd5d0", "8d9f41228dd51be80a5284f6f1e4aeb388daa99428bf70bbf03bf480b65bc184"},
}

// P14.1 (N2): bytes that another program wrote.
func TestWritten(t *testing.T) {
	for _, x := range written {
		b := ledger.Bytes(x.r)
		if sum := sha3.Sum256(b); len(b) != x.n || hex.EncodeToString(b[:8]) != x.head || hex.EncodeToString(sum[:]) != x.sum {
			t.Errorf("%+v: %x", x.r, b)
		}
	}
}

// P14.1 (N2): each field stands in its place, in eight bytes, the most significant one first; and texts and lists with how many they have.
func TestPlaces(t *testing.T) {
	b := ledger.Bytes(api.Record{Kind: api.Tick, N: 0x01020304})
	want := make([]byte, 168)
	want[7] = api.Tick
	copy(want[8+64+16:], []byte{0, 0, 0, 0, 1, 2, 3, 4})
	if !bytes.Equal(b[8:], want) {
		t.Errorf("Tick: %x", b[8:])
	}
	b = ledger.Bytes(api.Record{Kind: api.SetLimit, Limit: api.Limit{Owner: -1, Max: api.Use{Nodes: 2, Bytes: 0x0a0b}}})
	want = make([]byte, 168)
	want[7] = api.SetLimit
	copy(want[8+64+16+24:], []byte{255, 255, 255, 255, 255, 255, 255, 255, 0, 0, 0, 0, 0, 0, 0, 2, 0, 0, 0, 0, 0, 0, 0x0a, 0x0b})
	if !bytes.Equal(b[8:], want) {
		t.Errorf("SetLimit: %x", b[8:])
	}
	b = ledger.Bytes(api.Record{Kind: api.Retain, Path: "ab/c"})
	want = slices.Concat(eight(api.Retain), make([]byte, 64), eight(4), []byte("ab/c"), make([]byte, 88))
	if !bytes.Equal(b[8:], want) {
		t.Errorf("Retain: %x", b[8:])
	}
	great := tree.New(0)
	great.Next = 0x0102030405060708
	b = ledger.Bytes(api.Record{Kind: api.Take, Tree: great})
	if want := []byte{1, 2, 3, 4, 5, 6, 7, 8, 0, 0, 0, 0, 0, 0, 0, 0}; !bytes.HasSuffix(b, want) {
		t.Errorf("Take: %x", b[8:])
	}
	ace := slices.Concat(eight(-2), eight(1), eight(9), eight(3), eight(0))
	op := slices.Concat(eight(api.Chown), eight(6), eight(1), []byte("x"), eight(0), eight(1), eight(2), eight(3), eight(1), ace)
	b = ledger.Bytes(api.Record{Kind: api.Return, N: 4, Ops: []api.Op{{Kind: api.Chown, Who: 6, Path: "x", Off: 1, N: 2, Id: 3, Acl: []api.Ace{{Who: -2, Allow: true, Rights: 9, Reach: 3}}}}})
	want = slices.Concat(eight(api.Return), make([]byte, 64+16), eight(4), make([]byte, 16+24), eight(1), op, make([]byte, 24))
	if !bytes.Equal(b[8:], want) {
		t.Errorf("Return: %x", b[8:])
	}
}

// P14.1 (N2), P14.2: records of all kinds have the bytes of the chapter, from which they are read again, and no two of them have the same ones, or such as others begin with.
func TestBytes(t *testing.T) {
	l := rights()
	for i, r := range l {
		b := ledger.Bytes(r)
		if len(b) < 176 || !bytes.Equal(b, bytesOf(r)) {
			t.Errorf("%+v: %x", r, b)
		}
		if got, n, e := ledger.Parse(b); !equal(got, r) || n != len(b) || e != api.OK {
			t.Errorf("%+v: %+v, %d, %v", r, got, n, e)
		}
		for _, other := range l[:i] {
			if c := ledger.Bytes(other); bytes.HasPrefix(b, c) || bytes.HasPrefix(c, b) {
				t.Errorf("%+v and %+v: %x and %x", r, other, b, c)
			}
		}
	}
	if len(l) < 200 {
		t.Errorf("%d records", len(l))
	}
}

// P14.1 (N3), P14.2: what is read has the bytes that were read, whatever comes after them.
func TestParse(t *testing.T) {
	g := rand.New(rand.NewSource(3))
	l := rights()
	for _, r := range l {
		b := ledger.Bytes(r)
		for _, after := range [][]byte{nil, {0}, {255}, make([]byte, 200), b, b[:len(b)-1], ledger.Bytes(pick(g, l))} {
			got, n, e := ledger.Parse(slices.Concat(b, after))
			if !equal(got, r) || n != len(b) || e != api.OK || !bytes.Equal(ledger.Bytes(got), b) {
				t.Fatalf("%x: %+v, %d, %v", b, got, n, e)
			}
		}
	}
}

// refused asks Parse about bytes with which no record begins.
func refused(t *testing.T, b []byte) {
	t.Helper()
	if got, n, e := ledger.Parse(b); !equal(got, api.Record{}) || n != 0 || e != api.ErrRecord {
		t.Fatalf("%.400x: %+v, %d, %v", b, got, n, e)
	}
}

// P14.1 (N3): bytes that end too early: in the length, in the hash, or in the content.
func TestParseEnds(t *testing.T) {
	refused(t, nil)
	refused(t, []byte{})
	for _, r := range plain() {
		b := ledger.Bytes(r)
		for n := range b {
			refused(t, b[:n:n])
			// What is behind the bytes in memory is none of them.
			refused(t, b[:n])
		}
	}
}

// P14.1 (N3): only zeros, which have an empty content in the place of a record; and an empty content with its hash.
func TestParseZeros(t *testing.T) {
	for n := range 400 {
		refused(t, make([]byte, n))
	}
	empty := framed(nil)
	refused(t, empty)
	refused(t, append(empty, ledger.Bytes(tick(5))...))
	refused(t, framed(make([]byte, 168))) // the zero value
}

// P14.1 (N3): a length that is too small, or too great, or names more bytes than there are, with the hash that belongs to these bytes or to the right ones.
func TestParseLength(t *testing.T) {
	for _, r := range []api.Record{tick(5), {Kind: api.TakeSnap, Name: "a"}, {Kind: api.Take, Tree: sample()}} {
		b := ledger.Bytes(r)
		whole := slices.Concat(b, make([]byte, len(b)))
		for n := range len(whole) - 8 {
			if n == len(b)-8 {
				continue
			}
			own := framed(whole[8 : 8+n])
			refused(t, own)
			refused(t, append(own, whole[8+n:]...))
			other := slices.Clone(whole)
			copy(other, own[:4])
			refused(t, other)
			refused(t, other[:len(b)])
		}
		for _, length := range [][]byte{{255, 255, 255, 255}, {128, 0, 0, 0}, {127, 255, 255, 255}, {0, 1, 0, 168}, {1, 0, 0, 168}, {168, 0, 0, 0}, {0, 0, 168, 0}} {
			refused(t, append(slices.Clone(length), b[4:]...))
		}
	}
}

// P14.1 (N3): a content that has bytes left over, or too few, with its right length and hash.
func TestParseLeftOver(t *testing.T) {
	for _, r := range plain() {
		c := contentOf(r)
		for _, more := range [][]byte{{0}, {1}, make([]byte, 7), make([]byte, 8), make([]byte, 168), c} {
			refused(t, framed(slices.Concat(c, more)))
		}
		for n := range c {
			refused(t, framed(c[:n]))
		}
	}
}

// replaced returns a content in which one of the numbers is another one.
func replaced(c []byte, at, n int) []byte {
	return slices.Concat(c[:at], eight(n), c[at+8:])
}

// P14.1 (N3): a bool that is neither 0 nor 1.
func TestParseBools(t *testing.T) {
	for _, given := range []bool{false, true} {
		c := contentOf(api.Record{Kind: api.DoOp, Op: api.Op{Kind: api.Mkdir, Acl: []api.Ace{{Who: 3, Allow: true, Rights: 1, Reach: 1, Given: given}}}})
		for _, at := range []int{8 + 64 + 8, 8 + 64 + 32} {
			for _, n := range append([]int{2, 3, 255, 256, 257, 1 << 8, 1 << 16, 1<<56 + 1, 1 << 56, most}, odd...) {
				refused(t, framed(replaced(c, at, n)))
			}
			for n := range 2 {
				if got, _, e := ledger.Parse(framed(replaced(c, at, n))); e != api.OK || at == 80 && got.Op.Acl[0].Allow != (n == 1) || at == 104 && got.Op.Acl[0].Given != (n == 1) {
					t.Errorf("a bool that is %d: %+v, %v", n, got, e)
				}
			}
		}
	}
}

// P14.1 (N3): the length of a text, or a number of elements, that is another one: greater than what follows, less, or negative. (All numbers of the content are tried, also those that are none of these.)
func TestParseCounts(t *testing.T) {
	others := append([]int{0, 1, 2, 3, 4, 7, 8, 15, 16, 17, 20, 21, 22, 100, 168, 1000, most}, odd...)
	n, read := 0, 0
	for _, r := range plain() {
		c := contentOf(r)
		for at := 0; at+8 <= len(c); at++ {
			for _, other := range others {
				b := framed(replaced(c, at, other))
				want, size, wantErr := parsed(b)
				got, m, e := ledger.Parse(b)
				if !equal(got, want) || m != size || e != wantErr {
					t.Fatalf("%d in %x at %d: %+v, %d, %v", other, c, at, got, m, e)
				}
				n++
				if e == api.OK {
					read++
				}
			}
		}
	}
	if read < 100 || read > n/10 {
		t.Errorf("%d of %d were read", read, n)
	}
}

// P14.1 (N3): numbers of elements of each list, one of each of which stands at its place.
func TestParseLists(t *testing.T) {
	c := contentOf(tick(5))
	// Lists of entries, operations, nodes and opens, and the texts of the operation and the record.
	for _, at := range []int{24, 32, 64, 72, 80, 136, 144, 160} {
		for _, n := range append([]int{1, 2, 8, 21, 22, 168, 1 << 20, 1 << 31}, odd...) {
			if n != 0 {
				refused(t, framed(replaced(c, at, n)))
				refused(t, framed(append(replaced(c, at, n), make([]byte, 8000)...)))
			}
		}
	}
}

// P14.1 (N3), P14.2: random contents, most of them those of records in which few bytes are changed, and which have their right hash.
func TestParseChanged(t *testing.T) {
	g := rand.New(rand.NewSource(4))
	l := rights()
	accepted := 0
	for range 20000 {
		c := contentOf(pick(g, l))
		for range g.Intn(3) {
			switch at := g.Intn(len(c)); g.Intn(4) {
			case 0:
				c[at] = byte(g.Intn(3))
			case 1:
				c[at] ^= byte(1 << g.Intn(8))
			case 2:
				c = slices.Delete(c, at, min(at+8, len(c)))
			default:
				c = slices.Insert(c, at, eight(g.Intn(3))...)
			}
		}
		b := append(framed(c), make([]byte, g.Intn(3))...)
		want, size, wantErr := parsed(b)
		got, n, e := ledger.Parse(b)
		if !equal(got, want) || n != size || e != wantErr {
			t.Fatalf("%x: %+v, %d, %v", b, got, n, e)
		}
		if e == api.OK {
			accepted++
		}
	}
	if accepted < 6000 || accepted > 14000 {
		t.Errorf("%d were accepted", accepted)
	}
}

// P14.1 (N3), P1 of the document: any bytes.
func TestParseAny(t *testing.T) {
	g := rand.New(rand.NewSource(5))
	for range 20000 {
		b := make([]byte, g.Intn(400))
		g.Read(b)
		refused(t, b)
		refused(t, framed(b))
		if len(b) > 4 {
			b[0], b[1], b[2] = 0, 0, 0
			refused(t, b)
		}
	}
}

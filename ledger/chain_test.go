package ledger_test

import (
	"crypto/sha3"
	"encoding/hex"
	"math/rand"
	"slices"
	"testing"

	"burgage/api"
	"burgage/ledger"
)

// chainOf says as the chapter does which chain a log has: from its end on.
func chainOf(l []api.Record) api.Sum {
	if len(l) == 0 {
		return api.Sum{}
	}
	before, last := chainOf(l[:len(l)-1]), bytesOf(l[len(l)-1])
	return sha3.Sum256(slices.Concat([]byte{'C'}, eight(32), before[:], eight(len(last)), last))
}

// P14.1 (N6): the chain of no records, of one, of two in both orders, and of one that is not right; other than the first, they were found by another program.
func TestChain(t *testing.T) {
	five, snap, wrong := tick(5), api.Record{Kind: api.TakeSnap, Name: "a"}, api.Record{Kind: api.Tick, N: 5, M: 1}
	for _, c := range []struct {
		l    []api.Record
		want string
	}{
		{nil, "0000000000000000000000000000000000000000000000000000000000000000"},
		{[]api.Record{}, "0000000000000000000000000000000000000000000000000000000000000000"},
		{[]api.Record{five}, "d6dddfe3843978d133f715f4074ae3ba6f324baa59e5ae11e1540aef9d173c5b"},
		{[]api.Record{five, snap}, "245317521104e5b21de9d98e036544cfd2ff4ef4eece88a439b0ebfc54220bb1"},
		{[]api.Record{snap, five}, "1f61d83b016b2bcb43909fcdba885a9f2851c97c4a1535353a9dc704ef58e9ed"},
		{[]api.Record{wrong}, "9125c06f1f8cd62c1f353bf1611ab9ed42503ad3d04100cd3af3de86b2747e96"},
		{[]api.Record{{}}, "9125c06f1f8cd62c1f353bf1611ab9ed42503ad3d04100cd3af3de86b2747e96"},
		{[]api.Record{five, wrong, snap}, "2ab0f04e7995b273c484c65e0e63d7382b8d1e420cb8ae68dbaf46d19a9b6440"},
	} {
		if got := ledger.Chain(c.l); hex.EncodeToString(got[:]) != c.want {
			t.Errorf("%+v: %x", c.l, got)
		}
	}
}

// P14.1 (N6): chains of any records, some of which are not right.
func TestChains(t *testing.T) {
	g := rand.New(rand.NewSource(10))
	for range 300 {
		var l []api.Record
		for range g.Intn(8) {
			l = append(l, someRecord(g))
		}
		if got := ledger.Chain(l); got != chainOf(l) {
			t.Fatalf("%+v: %x", l, got)
		}
	}
}

// P14.4: logs of right records have the same chain exactly if they are equal, also when they were written and read in between.
func TestChainsDiffer(t *testing.T) {
	g := rand.New(rand.NewSource(11))
	seen := map[api.Sum][]api.Record{}
	few := []api.Record{tick(0), tick(1), {Kind: api.Close}, {Kind: api.Clone}}
	var all [][]api.Record
	for _, a := range few {
		all = append(all, []api.Record{a})
		for _, b := range few {
			all = append(all, []api.Record{a, b})
			for _, c := range few {
				all = append(all, []api.Record{a, b, c})
			}
		}
	}
	for range 1000 {
		all = append(all, someLog(g, 6))
	}
	for _, l := range all {
		chain := ledger.Chain(l)
		other, is := seen[chain]
		if is && (len(l) != len(other) || len(l) > 0 && !equal(l, other)) {
			t.Fatalf("%+v and %+v have the chain %x", l, other, chain)
		}
		seen[chain] = l
		if again := ledger.Chain(ledger.Cut(ledger.Join(l))); again != chain {
			t.Fatalf("%+v: %x, and once read %x", l, chain, again)
		}
		if is := chain == (api.Sum{}); is != (len(l) == 0) {
			t.Fatalf("%+v: %x", l, chain)
		}
	}
	if len(seen) < 800 {
		t.Errorf("%d chains", len(seen))
	}
}

package keys_test

import (
	"encoding/hex"
	"math/rand"
	"slices"
	"testing"

	"burgage/api"
	"burgage/keys"
)

// P6.1 (F1): one element stands for all chunks, whatever the seed is.
func TestNew(t *testing.T) {
	for _, s := range seeds() {
		k := keys.New(s)
		if !same(k, of(api.Cover{Depth: 0, At: 0, Key: s})) || !keys.Valid(k) || keys.Left(k) != 4096 {
			t.Errorf("New of %x: %v", s, k)
		}
	}
}

// P6.1 (F2) and P6.8: keys that were found by another program.
func TestKeyExamples(t *testing.T) {
	for _, e := range []struct {
		seed api.Sum
		id   int
		want string
	}{
		{api.Sum{}, 0, "744952405eee951d08a0985a28dc7e8b49891d7a977eb75a35a4e47ec1c601c8"},
		{api.Sum{}, 1, "c63dd7fe6017e357e8f8a9a774fc1d775a165f979105886e64ff88c99abcd1bc"},
		{api.Sum{}, 5, "0db6e904c090d59ac112f0a30a8baa26a1329f1596a726871d843e42cf6a4baa"},
		{api.Sum{}, 2047, "cc864d6a38dd1cfd0eb9ea01c650f83800e47a0c8f2dd56c427284a6fd7e978a"},
		{api.Sum{}, 2048, "291068597aa729befaa952c9c3a6e8316e102edaf78e8b5f756770851ef67a2f"},
		{api.Sum{}, 4094, "d4f55c20516c8bc2c9393714adc3d9ca700053809f11a0f18442ea51d1cfe22a"},
		{api.Sum{}, 4095, "12f108ffef1dd388595ba5e480d66bfe0c49f6beead7b72ca2b9f8746dd0dad3"},
		{counting(), 0, "8e0e1895b8d30aecb666370d3e02c727a559162f8ecd465151f7c0ca8007c387"},
		{counting(), 2047, "a4c13dfa0288a8a217fd63d3c2628785bc4ab5f2591ae71d6c0c3e0518375c0b"},
		{counting(), 2048, "92c04bbe0c66cec01e38c2d928aa009851caf8dd574b95e85be84ae2b2e426de"},
		{counting(), 4095, "04f37c123071d31589a41bfea19002f2c4e7b2b3c263af11205c41ae8689dec4"},
		{full(), 1, "5962194ebf9fbb7879e335a3f9888aeea541aea1d73238f1093669d636242d7d"},
		{full(), 5, "0f185d0d323a12896ecfde14d563efc4e4eac89e91ff9b12027b6333f6918e7f"},
		{full(), 4094, "ecd8247a747cd574c24693012c6737f78e1419e0c5aa60c81ea50e680c675d16"},
	} {
		got, err := keys.Key(keys.New(e.seed), e.id)
		if hex.EncodeToString(got[:]) != e.want || err != api.OK {
			t.Errorf("the key of %d from %x: %x, %v", e.id, e.seed, got, err)
		}
	}
}

// P6.8 (F2): the key of each chunk follows from the seed by twelve hashes, the first one for the most significant bit of the chunk; and no two chunks have one key.
func TestKeysFromSeed(t *testing.T) {
	for _, seed := range []api.Sum{{}, counting()} {
		k := keys.New(seed)
		seen := map[api.Sum]bool{}
		for id := range 4096 {
			want, hashes := seed, 0
			for bit := 2048; bit > 0; bit /= 2 {
				want = follow(want, id/bit%2)
				hashes++
			}
			if got, err := keys.Key(k, id); got != want || err != api.OK || hashes != 12 || seen[got] {
				t.Fatalf("the key of %d after %d hashes: %x, %v", id, hashes, got, err)
			}
			seen[want] = true
		}
	}
}

// P6.1 (F2): the key of a chunk follows from the element that stands for it, by as many hashes as it is deeper.
func TestKeyBelowElements(t *testing.T) {
	for depth := range 13 {
		for _, i := range []int{0, power(depth) / 2, power(depth) - 1} {
			c := at(depth, i)
			from, to := ends(c)
			for _, id := range []int{from, (from + to) / 2, to} {
				want, hashes := deeper(c, id)
				if got, err := keys.Key(of(c), id); got != want || err != api.OK || hashes != 12-depth {
					t.Errorf("the key of %d from %v after %d hashes: %x, %v", id, c, hashes, got, err)
				}
			}
			for _, id := range []int{from - 1, to + 1} {
				if got, err := keys.Key(of(c), id); got != (api.Sum{}) || err == api.OK {
					t.Errorf("the key of %d from %v: %x, %v", id, c, got, err)
				}
			}
		}
	}
	all := row(12, 0, 4096)
	for id, c := range all.Cover {
		if got, err := keys.Key(all, id); got != c.Key || err != api.OK {
			t.Fatalf("the key of %d from itself: %x, %v", id, got, err)
		}
	}
}

// P6.1 (F2, F4): keys of all kinds, those of no elements among them.
func TestKeysOfAllKinds(t *testing.T) {
	g := rand.New(rand.NewSource(3))
	for _, k := range samples() {
		for _, id := range numbersFor(g, k) {
			want, is := keyOf(k, id)
			wantErr := api.OK
			if !is {
				wantErr = api.ErrErased
			}
			if got, err := keys.Key(k, id); got != want || err != wantErr {
				t.Fatalf("the key of %d from %v: %x, %v", id, k, got, err)
			}
			if got := keys.Known([]api.Keys{k}, id); got != is {
				t.Fatalf("%d is known by %v: %v", id, k, got)
			}
			if got := len(keys.Lost(k, []int{id})) == 0; got != is {
				t.Fatalf("%d is not lost by %v: %v", id, k, got)
			}
		}
	}
}

// P6.1 (F2 to F4): numbers that are no chunk have no key, whatever is known, and are never known.
func TestNoChunks(t *testing.T) {
	for _, k := range samples() {
		for _, id := range noChunks {
			if got, err := keys.Key(k, id); got != (api.Sum{}) || err != api.ErrArg {
				t.Errorf("the key of %d from %v: %x, %v", id, k, got, err)
			}
			if got := keys.Destroy(k, id); !same(got, k) {
				t.Errorf("%v without %d: %v", k, id, got)
			}
			if got := keys.Lost(k, []int{id}); !slices.Equal(got, []int{id}) {
				t.Errorf("%d is lost by %v: %v", id, k, got)
			}
			if keys.Known([]api.Keys{k, {}, k}, id) {
				t.Errorf("%d is known by %v", id, k)
			}
		}
	}
}

// P6.1 (F4): lists of numbers, with repetitions, of which those that are lost keep their order.
func TestLost(t *testing.T) {
	few := of(at(12, 0), at(11, 1), at(12, 2048), at(3, 6))
	for _, e := range []struct {
		k         api.Keys
		ids, want []int
	}{
		{few, nil, nil},
		{few, []int{}, nil},
		{few, []int{0, 2, 3, 2048, 3072, 3583}, nil},
		{few, []int{1, 4, 2047, 2049, 3071, 3584, 4095}, []int{1, 4, 2047, 2049, 3071, 3584, 4095}},
		{few, []int{5, 0, 5, 4, 4, 0, 5, 1}, []int{5, 5, 4, 4, 5, 1}},
		{few, []int{4096, 3, -1, 2, 4096, 1, -1}, []int{4096, -1, 4096, 1, -1}},
		{api.Keys{}, []int{3, 2, 3, 0, 4095, -7}, []int{3, 2, 3, 0, 4095, -7}},
		{of(at(0, 0)), []int{3, 2, 3, 0, 4095, -7, 4096, -7}, []int{-7, 4096, -7}},
	} {
		if got := keys.Lost(e.k, e.ids); !slices.Equal(got, e.want) {
			t.Errorf("of %v, lost by %v: %v", e.ids, e.k, got)
		}
	}
	g := rand.New(rand.NewSource(4))
	for _, k := range samples() {
		ids := slices.Concat(numbersFor(g, k), noChunks, numbersFor(g, k))
		g.Shuffle(len(ids), func(i, j int) { ids[i], ids[j] = ids[j], ids[i] })
		var want []int
		for _, id := range ids {
			if _, is := keyOf(k, id); !is {
				want = append(want, id)
			}
		}
		if got := keys.Lost(k, ids); !slices.Equal(got, want) {
			t.Fatalf("of %v, lost by %v: %v", ids, k, got)
		}
	}
}

// P6.1 (F4) and P6.6: as many chunks are known as have a key.
func TestLeft(t *testing.T) {
	for _, k := range samples() {
		known := chunkKeys(k)
		if got := keys.Left(k); got != len(known) {
			t.Errorf("left of %v: %d, not %d", k, got, len(known))
		}
		if lost := keys.Lost(k, span(0, 4096)); len(lost) != 4096-len(known) {
			t.Errorf("lost by %v: %v", k, lost)
		}
	}
	for depth := range 13 {
		if got := keys.Left(of(at(depth, 0))); got != power(12-depth) {
			t.Errorf("left of one element of the depth %d: %d", depth, got)
		}
	}
}

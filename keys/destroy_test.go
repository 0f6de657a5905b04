package keys_test

import (
	"maps"
	"math/rand"
	"slices"
	"testing"

	"burgage/api"
	"burgage/keys"
)

// P6.1 (F3): the example of the chapter: twelve elements, of the depths 12 to 1.
func TestDestroyExample(t *testing.T) {
	k := keys.Destroy(keys.New(counting()), 0)
	if len(k.Cover) != 12 || keys.Left(k) != 4095 || !keys.Valid(k) {
		t.Fatalf("after 0 was destroyed: %v", k)
	}
	key := counting()
	for depth := 1; depth <= 12; depth++ {
		if want := (api.Cover{Depth: depth, At: 1, Key: follow(key, 1)}); k.Cover[12-depth] != want {
			t.Errorf("the element %d: %v", 12-depth, k.Cover[12-depth])
		}
		key = follow(key, 0)
	}
	if got, err := keys.Key(k, 0); got != (api.Sum{}) || err != api.ErrErased {
		t.Errorf("the key of 0: %x, %v", got, err)
	}
}

// places returns the Depth and At of each element.
func places(k api.Keys) [][2]int {
	var l [][2]int
	for _, c := range k.Cover {
		l = append(l, [2]int{c.Depth, c.At})
	}
	return l
}

// P6.1 (F3): the first chunk, the last one, those about the middle, neighbours, one that is destroyed already, and all of one half.
func TestDestroyEdges(t *testing.T) {
	first := [][2]int{{12, 1}, {11, 1}, {10, 1}, {9, 1}, {8, 1}, {7, 1}, {6, 1}, {5, 1}, {4, 1}, {3, 1}, {2, 1}, {1, 1}}
	last := [][2]int{{1, 0}, {2, 2}, {3, 6}, {4, 14}, {5, 30}, {6, 62}, {7, 126}, {8, 254}, {9, 510}, {10, 1022}, {11, 2046}, {12, 4094}}
	lowMiddle := [][2]int{{2, 0}, {3, 2}, {4, 6}, {5, 14}, {6, 30}, {7, 62}, {8, 126}, {9, 254}, {10, 510}, {11, 1022}, {12, 2046}, {1, 1}}
	highMiddle := [][2]int{{1, 0}, {12, 2049}, {11, 1025}, {10, 513}, {9, 257}, {8, 129}, {7, 65}, {6, 33}, {5, 17}, {4, 9}, {3, 5}, {2, 3}}
	for _, e := range []struct {
		ids  []int
		want [][2]int
	}{
		{nil, [][2]int{{0, 0}}},
		{[]int{0}, first},
		{[]int{0, 0, 0}, first},
		{[]int{0, 1}, first[1:]},
		{[]int{1, 0}, first[1:]},
		{[]int{0, 1, 2, 3}, first[2:]},
		{[]int{0, 3, 1}, append([][2]int{{12, 2}}, first[2:]...)},
		{[]int{4095}, last},
		{[]int{4095, 4094}, last[:11]},
		{[]int{4095, -1, 4096, 4095}, last},
		{[]int{2047}, lowMiddle},
		{[]int{2048}, highMiddle},
		{[]int{2047, 2048}, append(lowMiddle[:11:11], highMiddle[1:]...)},
		{span(0, 2048), [][2]int{{1, 1}}},
		{span(2048, 4096), [][2]int{{1, 0}}},
		{span(0, 4095), [][2]int{{12, 4095}}},
		{span(1, 4096), [][2]int{{12, 0}}},
		{span(0, 4096), nil},
		{append(span(0, 4096), 7), nil},
	} {
		for _, seed := range seeds()[3:5] {
			k := destroy(keys.New(seed), e.ids...)
			if !slices.Equal(places(k), e.want) || !same(k, without(of(api.Cover{Key: seed}), e.ids...)) || !keys.Valid(k) {
				t.Errorf("without %v: %v", e.ids, k)
			}
		}
	}
}

// P6.1 (F3): each chunk alone.
func TestDestroyOne(t *testing.T) {
	k := keys.New(full())
	for id := range 4096 {
		var want api.Keys // each sibling is put where those on its side end
		c, i := k.Cover[0], 0
		for c.Depth < 12 {
			low, high := under(c, 0), under(c, 1)
			if standsFor(low, id) {
				want.Cover, c = slices.Insert(want.Cover, i, high), low
			} else {
				want.Cover, c = slices.Insert(want.Cover, i, low), high
				i++
			}
		}
		if got := keys.Destroy(k, id); !same(got, want) {
			t.Fatalf("without %d: %v", id, got)
		}
	}
}

// P6.1 (F3): keys of all kinds, with siblings whose keys do not follow from one above them; the other elements stay.
func TestDestroy(t *testing.T) {
	g := rand.New(rand.NewSource(5))
	for _, k := range samples() {
		for _, id := range numbersFor(g, k) {
			if got := keys.Destroy(k, id); !same(got, without(k, id)) || !keys.Valid(got) {
				t.Fatalf("%v without %d: %v", k, id, got)
			}
		}
	}
}

// P6.2: a key that was destroyed is not known any more, and all others are what they were.
func TestOthersStay(t *testing.T) {
	g := rand.New(rand.NewSource(6))
	for i, k := range samples() {
		if i%3 != 0 {
			continue
		}
		want := chunkKeys(k)
		for range 3 {
			id := pick(g, numbersFor(g, k))
			k = keys.Destroy(k, id)
			delete(want, id)
			if got := chunkKeys(k); !maps.Equal(got, want) {
				t.Fatalf("after %d was destroyed, other chunks are known, or have other keys: %v", id, k)
			}
			for id := range 4096 {
				got, err := keys.Key(k, id)
				key, is := want[id]
				if got != key || is != (err == api.OK) || !is && err != api.ErrErased {
					t.Fatalf("the key of %d: %x, %v", id, got, err)
				}
			}
		}
	}
}

// P6.3: it does not matter in which order keys are destroyed, nor how often.
func TestOrder(t *testing.T) {
	g := rand.New(rand.NewSource(7))
	for _, k := range samples() {
		for _, n := range []int{1, 2, 3, 30} {
			ids := append(someIds(g, n), pick(g, noChunks))
			want := destroy(k, ids...)
			for range 4 {
				again := append(slices.Clone(ids), ids[:g.Intn(len(ids))]...)
				g.Shuffle(len(again), func(i, j int) { again[i], again[j] = again[j], again[i] })
				if got := destroy(k, again...); !same(got, want) {
					t.Fatalf("%v without %v: %v, and without %v: %v", k, ids, want, again, got)
				}
			}
		}
	}
	all := g.Perm(4096)
	if got := destroy(keys.New(full()), all...); len(got.Cover) > 0 {
		t.Errorf("after all were destroyed in any order: %v", got)
	}
	if got, want := destroy(keys.New(full()), all[:3000]...), destroy(keys.New(full()), slices.Sorted(slices.Values(all[:3000]))...); !same(got, want) {
		t.Errorf("after 3000 were destroyed: %v and %v", got, want)
	}
}

// P6.4: no element stands above a chunk that was destroyed, or for it; and neither its key, nor any key above it, is one of those that follow from what is left.
func TestBelow(t *testing.T) {
	g := rand.New(rand.NewSource(8))
	for _, ids := range [][]int{{0}, {4095}, {2047}, {2048}, {0, 1}, {0, 4095}, span(0, 2048), someIds(g, 5), someIds(g, 50), someIds(g, 1000)} {
		seed := someSum(g)
		k := destroy(keys.New(seed), ids...)
		left := map[api.Sum]bool{}
		for _, c := range k.Cover {
			for _, id := range ids {
				if standsFor(c, id) {
					t.Fatalf("%v stands above %d, which was destroyed", c, id)
				}
			}
			for _, x := range allBelow(c) {
				left[x.Key] = true
			}
		}
		for _, id := range ids {
			c := api.Cover{Key: seed}
			for n := 2048; ; n /= 2 {
				if left[c.Key] {
					t.Fatalf("the key of %v, which is above %d, is left", c, id)
				}
				if c.Depth == 12 {
					break
				}
				c = under(c, id/n%2)
			}
		}
	}
}

// P6.5: several copies together know what one of them knows, and none of them what was destroyed in all.
func TestUnions(t *testing.T) {
	g := rand.New(rand.NewSource(9))
	some := samples()
	for range 200 {
		var l []api.Keys
		for range g.Intn(5) {
			l = append(l, pick(g, some))
		}
		id := g.Intn(4096)
		if len(l) > 0 {
			id = pick(g, numbersFor(g, pick(g, l)))
		}
		is := slices.ContainsFunc(l, func(k api.Keys) bool { _, is := keyOf(k, id); return is })
		if got := keys.Known(l, id); got != is {
			t.Fatalf("%d is known by %v: %v", id, l, got)
		}
		for i := range l {
			l[i] = keys.Destroy(l[i], id)
		}
		if keys.Known(l, id) {
			t.Fatalf("%d is known by %v", id, l)
		}
	}
}

// P6.5: copies of one tree, in which other keys were destroyed; no copies; and copies that know nothing.
func TestCopies(t *testing.T) {
	k := keys.New(counting())
	most, none, one := destroy(k, 0, 1, 2), api.Keys{}, of(at(12, 1))
	for _, e := range []struct {
		l    []api.Keys
		id   int
		want bool
	}{
		{nil, 0, false}, {[]api.Keys{}, 4095, false}, {[]api.Keys{none}, 0, false}, {[]api.Keys{none, none, none}, 7, false},
		{[]api.Keys{most}, 0, false}, {[]api.Keys{most}, 3, true}, {[]api.Keys{most, most}, 2, false},
		{[]api.Keys{k, most, none}, 0, true}, {[]api.Keys{most, k}, 0, true}, {[]api.Keys{none, most, one}, 0, false},
		{[]api.Keys{none, most, one}, 1, true}, {[]api.Keys{one, most, none}, 1, true}, {[]api.Keys{most, one, none}, 2, false},
		{[]api.Keys{k, k}, -1, false}, {[]api.Keys{k, one}, 4096, false},
	} {
		if got := keys.Known(e.l, e.id); got != e.want {
			t.Errorf("%d is known by %v: %v", e.id, e.l, got)
		}
	}
}

// P6.6: as many chunks are known as were at first, less those that were destroyed.
func TestCounting(t *testing.T) {
	g := rand.New(rand.NewSource(10))
	for _, k := range samples() {
		want := keys.Left(k)
		gone := map[int]bool{}
		for _, id := range append(someIds(g, 40), 5, -1, 5, 4096) {
			if _, is := keyOf(k, id); is && !gone[id] {
				want--
			}
			gone[id] = true
			k = keys.Destroy(k, id)
			if got := keys.Left(k); got != want {
				t.Fatalf("left of %v: %d, not %d", k, got, want)
			}
		}
	}
	k := keys.New(api.Sum{})
	for i, id := range g.Perm(4096) {
		if keys.Left(k) != 4096-i {
			t.Fatalf("%d are left of %d", keys.Left(k), 4096-i)
		}
		k = keys.Destroy(k, id)
	}
	if keys.Left(k) != 0 || keys.Left(keys.Destroy(k, 7)) != 0 {
		t.Errorf("%d are left of none", keys.Left(k))
	}
}

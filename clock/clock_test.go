package clock_test

import (
	"math/rand"
	"testing"

	"burgage/clock"
)

// P16.1 (AK1), and P1 of the document: a clock is valid from 10 behind to 10 ahead, and no other one is.
func TestValid(t *testing.T) {
	for n, want := range map[int]bool{
		least: false, least + 1: false, least + 10: false, least + 11: false, -1 << 32: false, -256: false, -20: false, -12: false, -11: false,
		-10: true, -9: true, -3: true, -1: true, 0: true, 1: true, 7: true, 9: true, 10: true,
		11: false, 12: false, 20: false, 246: false, 255: false, 256: false, 1<<16 + 3: false, 1 << 32: false, 1<<32 - 5: false, greatest - 10: false, greatest - 9: false, greatest - 1: false, greatest: false,
	} {
		if got := clock.Valid(of(n)); got != want {
			t.Errorf("Valid of a clock that is %d ahead: %v", n, got)
		}
	}
	for n := -100000; n <= 100000; n++ {
		if got := clock.Valid(of(n)); got != (n > -11 && n < 11) {
			t.Errorf("Valid of a clock that is %d ahead: %v", n, got)
		}
	}
	for _, n := range oddNumbers() {
		if got := clock.Valid(of(n)); got != (n > -11 && n < 11) {
			t.Errorf("Valid of a clock that is %d ahead: %v", n, got)
		}
	}
}

// P16.1 (AK2): what clocks show at true times before 0, at 0, behind it, and at both bounds.
func TestRead(t *testing.T) {
	for _, e := range []struct{ ahead, now, want int }{
		{0, 0, 0}, {10, 0, 10}, {-10, 0, -10}, {1, -1, 0}, {-1, 1, 0},
		{-3, 100, 97}, {3, 100, 103}, {10, -4, 6}, {10, -100, -90}, {-10, -100, -110}, {-10, 4, -6},
		{0, 1000000000, 1000000000}, {-10, 1000000000, 999999990}, {10, 1 << 40, 1099511627786},
		{0, far, 2305843009213693952}, {10, far, 2305843009213693962}, {-10, far, 2305843009213693942},
		{0, -far, -2305843009213693952}, {10, -far, -2305843009213693942}, {-10, -far, -2305843009213693962},
	} {
		if got := clock.Read(of(e.ahead), e.now); got != e.want {
			t.Errorf("Read of a clock that is %d ahead, at %d: %d, not %d", e.ahead, e.now, got, e.want)
		}
	}
	for _, now := range oddTimes() {
		for _, c := range everyClock() {
			if got := plus(clock.Read(c, now), -c.Ahead); got.Cmp(plus(now, 0)) != 0 {
				t.Fatalf("Read of %v at %d less what it is ahead: %v", c, now, got)
			}
		}
	}
}

// P16.1 (AK2): the true times for what is shown, before 0, at 0, behind it, and at both bounds.
func TestBetween(t *testing.T) {
	for _, e := range []struct{ shown, from, to int }{
		{0, -10, 10}, {1, -9, 11}, {-1, -11, 9}, {10, 0, 20}, {-10, -20, 0},
		{100, 90, 110}, {-100, -110, -90}, {1000000000, 999999990, 1000000010}, {1 << 32, 4294967286, 4294967306},
		{far, 2305843009213693942, 2305843009213693962}, {-far, -2305843009213693962, -2305843009213693942},
		{far - 10, 2305843009213693932, 2305843009213693952}, {10 - far, -2305843009213693952, -2305843009213693932},
	} {
		if from, to := clock.Between(e.shown); from != e.from || to != e.to {
			t.Errorf("Between of %d: %d, %d, not %d, %d", e.shown, from, to, e.from, e.to)
		}
	}
	for _, shown := range oddTimes() {
		from, to := clock.Between(shown)
		if least, most := between(shown); from != least || to != most {
			t.Fatalf("Between of %d: %d, %d, not %d, %d", shown, from, to, least, most)
		}
	}
}

// P16.1 (AK5): clocks that drift by nothing, within the bounds, up to them, past them, and by the least and the greatest number there is.
func TestDrift(t *testing.T) {
	for _, e := range []struct{ ahead, by, want int }{
		{0, 0, 0}, {10, 0, 10}, {-10, 0, -10}, {4, 0, 4},
		{0, 1, 1}, {0, -1, -1}, {3, 4, 7}, {3, -4, -1}, {-3, -4, -7}, {-3, 4, 1},
		{0, 10, 10}, {0, -10, -10}, {8, 2, 10}, {-8, -2, -10}, {8, -18, -10}, {-8, 18, 10}, {10, -20, -10}, {-10, 20, 10},
		{0, 9, 9}, {0, -9, -9}, {8, 1, 9}, {-8, -1, -9}, {10, -19, -9}, {-10, 19, 9}, {10, -1, 9}, {-10, 1, -9},
		{0, 11, 10}, {0, -11, -10}, {8, 3, 10}, {8, 5, 10}, {-8, -3, -10}, {8, -19, -10}, {8, -100, -10}, {-8, 19, 10}, {10, 1, 10}, {-10, -1, -10}, {10, -21, -10}, {-10, 21, 10},
		{0, 256, 10}, {0, -256, -10}, {5, 1 << 32, 10}, {5, -1 << 32, -10}, {-5, 1 << 60, 10}, {-5, -1 << 60, -10},
		{0, greatest, 10}, {1, greatest, 10}, {10, greatest, 10}, {10, greatest - 9, 10}, {9, greatest - 9, 10}, {-10, greatest, 10}, {-1, greatest, 10},
		{0, least, -10}, {-1, least, -10}, {-10, least, -10}, {-10, least + 9, -10}, {-9, least + 9, -10}, {10, least, -10}, {1, least, -10},
	} {
		if got := clock.Drift(of(e.ahead), e.by); got != of(e.want) {
			t.Errorf("Drift of a clock that is %d ahead by %d: %v, not %d", e.ahead, e.by, got, e.want)
		}
	}
	ways := append(oddNumbers(), greatest, least)
	for n := 1; n <= 30; n++ {
		ways = append(ways, greatest-n, least+n)
	}
	for _, c := range everyClock() {
		for _, by := range ways {
			if got, want := clock.Drift(c, by), drift(c.Ahead, by); got != of(want) {
				t.Fatalf("Drift of %v by %d: %v, not %d", c, by, got, want)
			}
		}
	}
}

// P16.6 (drifting): clocks that drift remain valid, however often and far, and drifting by nothing changes nothing.
func TestDriftStaysValid(t *testing.T) {
	g := rand.New(rand.NewSource(61))
	met, inside := 0, 0
	for range 200 {
		c := pick(g, everyClock())
		ahead := c.Ahead
		for range 200 {
			by := g.Intn(13) - 6
			switch g.Intn(40) {
			case 0:
				by = int(g.Uint64())
			case 1:
				by = pick(g, []int{least, greatest, least + 1, greatest - 1, -20, 20, -21, 21})
			}
			c, ahead = clock.Drift(c, by), drift(ahead, by)
			if !clock.Valid(c) || c != of(ahead) || clock.Drift(c, 0) != c {
				t.Fatalf("%v, after it drifted by %d, is not %d ahead, or drifts by nothing", c, by, ahead)
			}
			if c.Ahead == 10 || c.Ahead == -10 {
				met++
			} else {
				inside++
			}
		}
	}
	if met < 2000 || inside < 2000 {
		t.Errorf("%d times at a bound, %d times not", met, inside)
	}
}

// P16.6 (drifting): forth and back leads back, unless a bound stopped the clock; then it leads as far back from the bound.
func TestDriftForthAndBack(t *testing.T) {
	for _, c := range everyClock() {
		for by := -45; by <= 45; by++ {
			there := clock.Drift(c, by)
			back := clock.Drift(there, -by)
			switch sum := c.Ahead + by; {
			case sum >= -10 && sum <= 10:
				if there != of(sum) || back != c {
					t.Errorf("%v, forth by %d and back: %v, %v", c, by, there, back)
				}
			case sum > 10:
				if there != of(10) || back != of(max(10-by, -10)) {
					t.Errorf("%v, forth by %d and back: %v, %v", c, by, there, back)
				}
			default:
				if there != of(-10) || back != of(min(-10-by, 10)) {
					t.Errorf("%v, forth by %d and back: %v, %v", c, by, there, back)
				}
			}
		}
		if back := clock.Drift(clock.Drift(c, greatest), -greatest); back != of(-10) {
			t.Errorf("%v, forth as far as possible and back: %v", c, back)
		}
		if back := clock.Drift(clock.Drift(c, -greatest), greatest); back != of(10) {
			t.Errorf("%v, back as far as possible and forth: %v", c, back)
		}
	}
}

// P16.5 (bounds): what a valid clock shows tells the true time up to 10, and no less, and two valid clocks differ by at most 20.
func TestBounds(t *testing.T) {
	for _, now := range oddTimes() {
		if !areTimes(now-10, now+10) {
			continue
		}
		from, to := clock.Between(now)
		atLeast, atMost := false, false
		for _, c := range everyClock() {
			shown := clock.Read(c, now)
			if shown < now-10 || shown > now+10 {
				t.Fatalf("%v shows %d at %d", c, shown, now)
			}
			if from, to := clock.Between(shown); from > now || to < now || to-from != 20 {
				t.Fatalf("%v shows %d at %d, which is not from %d to %d", c, shown, now, from, to)
			}
			for _, d := range everyClock() {
				if apart := shown - clock.Read(d, now); apart < -20 || apart > 20 {
					t.Fatalf("%v and %v differ by %d at %d", c, d, apart, now)
				}
			}
			atLeast = atLeast || clock.Read(c, from) == now
			atMost = atMost || clock.Read(c, to) == now
			if clock.Read(c, from-1) == now || clock.Read(c, to+1) == now {
				t.Fatalf("%v shows %d at a time that is not between %d and %d", c, now, from, to)
			}
		}
		if !atLeast || !atMost {
			t.Fatalf("no valid clock shows %d at %d, or at %d", now, from, to)
		}
	}
	if apart := clock.Read(of(10), 5) - clock.Read(of(-10), 5); apart != 20 {
		t.Errorf("the clocks at both bounds differ by %d", apart)
	}
}

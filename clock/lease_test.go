package clock_test

import (
	"math/rand"
	"sort"
	"testing"

	"burgage/clock"
)

// P16.1 (AK3): Holds up to the last time at which a lease holds, and at the first one at which it does not; Over likewise.
func TestHoldsAndOver(t *testing.T) {
	for _, e := range []struct {
		until, shown int
		holds, over  bool
	}{
		{100, -far, true, false}, {100, -100, true, false}, {100, 0, true, false}, {100, 78, true, false}, {100, 79, true, false},
		{100, 80, false, false}, {100, 81, false, false}, {100, 90, false, false}, {100, 99, false, false}, {100, 100, false, false}, {100, 101, false, false}, {100, 110, false, false}, {100, 118, false, false}, {100, 119, false, false},
		{100, 120, false, true}, {100, 121, false, true}, {100, 1000, false, true}, {100, far, false, true},
		{0, -22, true, false}, {0, -21, true, false}, {0, -20, false, false}, {0, -19, false, false}, {0, 0, false, false}, {0, 19, false, false}, {0, 20, false, true}, {0, 21, false, true},
		{-7, -28, true, false}, {-7, -27, false, false}, {-7, 12, false, false}, {-7, 13, false, true},
		{-100, -121, true, false}, {-100, -120, false, false}, {-100, -81, false, false}, {-100, -80, false, true}, {-100, 100, false, true},
		{1000000000, 999999979, true, false}, {1000000000, 999999980, false, false}, {1000000000, 1000000019, false, false}, {1000000000, 1000000020, false, true},
		{far, -far, true, false}, {far, 0, true, false}, {far, 2305843009213693931, true, false}, {far, 2305843009213693932, false, false}, {far, far - 1, false, false}, {far, far, false, false},
		{far - 19, far, false, false}, {far - 20, far, false, true}, {far - 21, far, false, true}, {far - 1, far - 22, true, false}, {far - 1, far - 21, false, false},
		{-far, far, false, true}, {-far, 0, false, true}, {-far, -2305843009213693932, false, true}, {-far, -2305843009213693933, false, false}, {-far, 1 - far, false, false}, {-far, -far, false, false},
		{20 - far, -far, false, false}, {21 - far, -far, true, false}, {22 - far, -far, true, false}, {1 - far, 20 - far, false, false}, {1 - far, 21 - far, false, true},
	} {
		if holds, over := clock.Holds(e.until, e.shown), clock.Over(e.until, e.shown); holds != e.holds || over != e.over {
			t.Errorf("a lease until %d, at %d: %v, %v", e.until, e.shown, holds, over)
		}
	}
}

// P16.1 (AK4): Wait where a lease is over already, where it is over at the next time, before that, and where it holds still.
func TestWait(t *testing.T) {
	for _, e := range []struct{ until, shown, want int }{
		{100, 120, 0}, {100, 121, 0}, {100, 1000, 0}, {100, far, 0},
		{100, 119, 1}, {100, 118, 2}, {100, 115, 5}, {100, 101, 19}, {100, 100, 20}, {100, 99, 21}, {100, 80, 40},
		{100, 79, 41}, {100, 0, 120}, {100, -50, 170},
		{0, 20, 0}, {0, 21, 0}, {0, 19, 1}, {0, 0, 20}, {0, -20, 40}, {0, -21, 41},
		{-100, -80, 0}, {-100, -81, 1}, {-100, -121, 41}, {-100, 0, 0}, {-100, 100, 0},
		{1000000000, 0, 1000000020}, {1000000000, 1000000020, 0}, {1000000000, 1000000019, 1},
		{far, far, 20}, {far, far - 1, 21}, {far - 20, far, 0}, {far - 19, far, 1}, {far - 21, far, 0},
		{far, 0, 2305843009213693972}, {0, -far, 2305843009213693972}, {far, -far, 4611686018427387924},
		{-far, -far, 20}, {1 - far, -far, 21}, {-far, 20 - far, 0}, {-far, 19 - far, 1}, {-far, 0, 0}, {-far, far, 0},
	} {
		if got := clock.Wait(e.until, e.shown); got != e.want {
			t.Errorf("Wait for %d, at %d: %d, not %d", e.until, e.shown, got, e.want)
		}
	}
}

// P16.1 (AK3, AK4), P16.7 (ends): all times about an end, and both bounds of the times; 40 of them are between holding and being over.
func TestAboutEnds(t *testing.T) {
	for _, until := range oddTimes() {
		between := 0
		for shown := until - 60; shown <= until+60; shown++ {
			if !areTimes(shown) {
				continue
			}
			isHeld, isOver, left := clock.Holds(until, shown), clock.Over(until, shown), clock.Wait(until, shown)
			if isHeld != (shown < until-20) || isOver != (shown >= until+20) || left != max(until+20-shown, 0) {
				t.Fatalf("a lease until %d, at %d: %v, %v, %d", until, shown, isHeld, isOver, left)
			}
			if !isHeld && !isOver {
				between++
			}
		}
		if areTimes(until-20, until+20) && between != 40 {
			t.Errorf("until %d: %d times between", until, between)
		}
	}
}

// P16.2 (safety): at no true time does a lease hold by one valid clock and is over by another one, or by itself; nor does it hold by any clock at a later time.
func TestSafety(t *testing.T) {
	held, done := 0, 0
	for _, until := range oddTimes() {
		if !areTimes(until-60, until+60) {
			continue
		}
		isDone := false // by some clock, now or before
		for now := until - 45; now <= until+45; now++ {
			isHeld := false
			for _, c := range everyClock() {
				shown := clock.Read(c, now)
				isHeld = isHeld || clock.Holds(until, shown)
				isDone = isDone || clock.Over(until, shown)
			}
			if isHeld && isDone {
				t.Fatalf("a lease until %d, at %d, holds by one clock and is over by another one", until, now)
			}
			if isHeld {
				held++
			}
			if isDone {
				done++
			}
		}
	}
	if held < 1000 || done < 1000 {
		t.Errorf("%d times that hold, and %d that do not", held, done)
	}
}

// P16.2 (safety): ends and true times that have nothing to do with each other, among them those at the bounds, and two clocks that drift.
func TestSafetyAnywhere(t *testing.T) {
	g := rand.New(rand.NewSource(62))
	odd := oddTimes()
	c, d := of(0), of(0)
	held, done := 0, 0
	for range 200000 {
		until := someTime(g, odd, 0)
		now := someTime(g, odd, until)
		a, b := clock.Read(c, now), clock.Read(d, now)
		if !areTimes(a, b) {
			continue
		}
		isHeld, isDone := clock.Holds(until, a), clock.Over(until, b)
		if isHeld && (isDone || clock.Over(until, a)) {
			t.Fatalf("a lease until %d holds at %d by %v and is over by %v", until, now, c, d)
		}
		if isHeld {
			held++
		}
		if isDone {
			done++
		}
		c, d = clock.Drift(c, g.Intn(11)-5), clock.Drift(d, g.Intn(11)-5)
	}
	if held < 10000 || done < 10000 {
		t.Errorf("%d times that hold, and %d that are over", held, done)
	}
}

// P16.3 (order): earlier a lease holds, too, later it is over, too, and both are true for a later end and an earlier one.
func TestOrder(t *testing.T) {
	g := rand.New(rand.NewSource(63))
	odd := oddTimes()
	held, done := 0, 0
	for range 200000 {
		until := someTime(g, odd, 0)
		shown := someTime(g, odd, until)
		earlier, later := min(someTime(g, odd, shown), shown), max(someTime(g, odd, shown), shown)
		sooner, further := min(someTime(g, odd, until), until), max(someTime(g, odd, until), until)
		if clock.Holds(until, shown) {
			held++
			if !clock.Holds(until, earlier) || !clock.Holds(further, shown) || !clock.Holds(further, earlier) {
				t.Fatalf("a lease until %d holds at %d, but not at %d, or not until %d", until, shown, earlier, further)
			}
		}
		if clock.Over(until, shown) {
			done++
			if !clock.Over(until, later) || !clock.Over(sooner, shown) || !clock.Over(sooner, later) {
				t.Fatalf("a lease until %d is over at %d, but not at %d, or not until %d", until, shown, later, sooner)
			}
		}
	}
	if held < 10000 || done < 10000 {
		t.Errorf("%d times that hold, and %d that are over", held, done)
	}
}

// firstTime returns the first of all times at which something is true that is so for all later ones, and far + 1 if there is none.
func firstTime(is func(shown int) bool) int {
	return sort.Search(2*far+1, func(n int) bool { return is(n - far) }) - far
}

// P16.3 (order), P16.7 (ends): among all times, a lease holds up to the one that is 21 before its end, and is over from the one that is 20 behind it; with a later end, it holds for as many times more.
func TestHowLong(t *testing.T) {
	before, begin := 0, true
	for _, until := range oddTimes() {
		end := firstTime(func(shown int) bool { return !clock.Holds(until, shown) })
		start := firstTime(func(shown int) bool { return clock.Over(until, shown) })
		if end != max(until-20, -far) || start != min(until+20, far+1) {
			t.Fatalf("a lease until %d holds before %d, and is over from %d on", until, end, start)
		}
		if areTimes(until-20, until+20) && start-end != 40 {
			t.Fatalf("a lease until %d: %d times between", until, start-end)
		}
		if !begin && before > -far && end <= before {
			t.Fatalf("a lease until %d, though it ends later, holds before %d, not %d", until, end, before)
		}
		before, begin = end, false
	}
}

// P16.4 (waiting): after waiting, a lease is over, and before, it is not; so who waits knows that no valid clock shows a time at which it holds.
func TestWaiting(t *testing.T) {
	g := rand.New(rand.NewSource(64))
	odd := oddTimes()
	waited, none := 0, 0
	for range 100000 {
		until := min(someTime(g, odd, 0), far-60)
		shown := someTime(g, odd, until)
		n := clock.Wait(until, shown)
		if n < 0 || !areTimes(shown+n) || !clock.Over(until, shown+n) {
			t.Fatalf("until %d, at %d: not over after %d", until, shown, n)
		}
		for _, m := range []int{0, 1, 2, n / 2, n - 20, n - 2, n - 1} {
			if m >= 0 && m < n && clock.Over(until, shown+m) {
				t.Fatalf("until %d, at %d: over after %d, not after %d", until, shown, m, n)
			}
		}
		c := of(g.Intn(21) - 10)
		for _, d := range everyClock() {
			// What c shows after waiting tells when that is.
			if other := clock.Read(d, shown+n-c.Ahead); areTimes(other) && clock.Holds(until, other) {
				t.Fatalf("until %d: %v waits %d from %d on, but %v shows %d", until, c, n, shown, d, other)
			}
		}
		if n > 0 {
			waited++
		} else {
			none++
		}
	}
	if waited < 10000 || none < 10000 {
		t.Errorf("%d waited, %d did not", waited, none)
	}
}

// P16.4 (waiting): near an end, at each time before the waiting is over, one by one.
func TestWaitingStepByStep(t *testing.T) {
	for until := -70; until <= 70; until++ {
		for shown := -150; shown <= 150; shown++ {
			n := 0
			for !clock.Over(until, shown+n) {
				n++
			}
			if got := clock.Wait(until, shown); got != n {
				t.Fatalf("until %d, at %d: over after %d, not after %d", until, shown, n, got)
			}
		}
	}
}

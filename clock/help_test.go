package clock_test

import (
	"math"
	"math/big"
	"math/rand"
	"slices"
	"sort"

	"burgage/api"
	"burgage/clock"
)

// far is the greatest of the times that the functions accept, and -far is the least.
const far = 1 << 61

// least and greatest are the numbers at both ends of all that there are.
const least, greatest = math.MinInt, math.MaxInt

func pick[T any](g *rand.Rand, l []T) T { return l[g.Intn(len(l))] }

func of(ahead int) api.Clock { return api.Clock{Ahead: ahead} }

// everyClock returns all clocks that are valid.
func everyClock() []api.Clock {
	var l []api.Clock
	for n := -10; n <= 10; n++ {
		l = append(l, of(n))
	}
	return l
}

// oddNumbers returns numbers at which a program that has too little room for them goes wrong, and what is up to 45 away from each.
func oddNumbers() []int {
	l := []int{0, far, -far}
	for _, bits := range []int{7, 8, 15, 16, 31, 32, 53, 60} {
		l = append(l, 1<<bits, -1<<bits, 1<<bits+1<<20, 3<<(bits-1))
	}
	var all []int
	for _, n := range l {
		for m := n - 45; m <= n+45; m++ {
			all = append(all, m)
		}
	}
	slices.Sort(all)
	return slices.Compact(all)
}

// areTimes reports whether the functions accept all of these times.
func areTimes(l ...int) bool {
	return slices.Min(l) >= -far && slices.Max(l) <= far
}

// oddTimes returns those of the odd numbers that are times.
func oddTimes() []int {
	return slices.DeleteFunc(oddNumbers(), func(n int) bool { return !areTimes(n) })
}

// someTime returns a time: near zero, an odd one, one near t, or any.
func someTime(g *rand.Rand, odd []int, t int) int {
	switch g.Intn(4) {
	case 0:
		return g.Intn(201) - 100
	case 1:
		return pick(g, odd)
	case 2:
		return min(max(t+g.Intn(91)-45, -far), far)
	}
	return g.Intn(2*far+1) - far
}

// plus returns a sum for which there is always room.
func plus(a, b int) *big.Int { return new(big.Int).Add(big.NewInt(int64(a)), big.NewInt(int64(b))) }

// holds says as the chapter does whether a lease holds: if the time that is shown, plus 20, is less than the end.
func holds(until, shown int) bool { return plus(shown, 20).Cmp(plus(until, 0)) < 0 }

// over says as the chapter does whether a lease is over: if the time that is shown, less 20, is not less than the end.
func over(until, shown int) bool { return plus(shown, -20).Cmp(plus(until, 0)) >= 0 }

// wait looks for the least number, not less than 0, after which a lease is over.
func wait(until, shown int) int {
	return sort.Search(1<<62+1000, func(n int) bool {
		later := plus(shown, n)
		return later.Sub(later, big.NewInt(20)).Cmp(plus(until, 0)) >= 0
	})
}

// between looks at the true times about what is shown for those at which one of the valid clocks shows it.
func between(shown int) (int, int) {
	var l []int
	for now := shown - 50; now <= shown+50; now++ {
		for n := -10; n <= 10; n++ {
			if now+n == shown {
				l = append(l, now)
			}
		}
	}
	return slices.Min(l), slices.Max(l)
}

// drift says as the chapter does where a clock comes that drifts.
func drift(ahead, by int) int {
	sum := plus(ahead, by)
	switch {
	case sum.Cmp(big.NewInt(10)) > 0:
		return 10
	case sum.Cmp(big.NewInt(-10)) < 0:
		return -10
	}
	return int(sum.Int64())
}

// answers has the results of all functions for some arguments.
type answers struct {
	valid, holds, over          bool
	read, least, greatest, wait int
	drift                       api.Clock
}

// answersOf asks all functions about the clock, two numbers that are used as times, and by how much the clock drifts.
func answersOf(c api.Clock, until, shown, by int) answers {
	from, to := clock.Between(shown)
	return answers{
		valid: clock.Valid(c), holds: clock.Holds(until, shown), over: clock.Over(until, shown),
		read: clock.Read(c, shown), least: from, greatest: to, wait: clock.Wait(until, shown),
		drift: clock.Drift(c, by),
	}
}

// modelOf says what answersOf must return.
func modelOf(c api.Clock, until, shown, by int) answers {
	from, to := between(shown)
	return answers{
		valid: slices.Contains(everyClock(), c), holds: holds(until, shown), over: over(until, shown),
		read: int(plus(shown, c.Ahead).Int64()), least: from, greatest: to, wait: wait(until, shown),
		drift: of(drift(c.Ahead, by)),
	}
}

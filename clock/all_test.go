package clock_test

import (
	"math/rand"
	"slices"
	"sync"
	"testing"

	"burgage/api"
	"burgage/clock"
)

// P16.1: the examples of the chapter, and the third one of the document.
func TestExamples(t *testing.T) {
	if got := clock.Read(of(-3), 100); got != 97 {
		t.Errorf("Read: %d", got)
	}
	if from, to := clock.Between(100); from != 90 || to != 110 {
		t.Errorf("Between: %d, %d", from, to)
	}
	if !clock.Holds(100, 79) || clock.Holds(100, 80) {
		t.Error("Holds")
	}
	if clock.Over(100, 119) || !clock.Over(100, 120) || clock.Wait(100, 115) != 5 {
		t.Error("Over, or Wait")
	}
	if a, b := clock.Drift(of(8), 5), clock.Drift(of(8), -100); a != of(10) || b != of(-10) {
		t.Errorf("Drift: %v, %v", a, b)
	}
}

// P16.1 (AK1 to AK5), and P1 of the document: the results for any clocks, times and ways are those of the model.
func TestModel(t *testing.T) {
	g := rand.New(rand.NewSource(65))
	odd := oddTimes()
	ways := append(oddNumbers(), least, least+1, greatest-1, greatest)
	seen := map[[4]bool]int{}
	for range 50000 {
		c := pick(g, everyClock())
		until := someTime(g, odd, 0)
		shown := someTime(g, odd, until)
		by := g.Intn(51) - 25
		if g.Intn(3) == 0 {
			by = pick(g, ways)
		}
		got, want := answersOf(c, until, shown, by), modelOf(c, until, shown, by)
		if got != want {
			t.Fatalf("%v, %d, %d, %d: %v, not %v", c, until, shown, by, got, want)
		}
		seen[[4]bool{got.holds, got.over, got.wait > 0, got.drift.Ahead*got.drift.Ahead == 100}]++
	}
	// A lease holds, is over, or neither; and a bound is met or not.
	if len(seen) != 6 {
		t.Errorf("not all cases were seen: %v", seen)
	}
	for k, n := range seen {
		if n < 1000 {
			t.Errorf("%v was seen %d times only", k, n)
		}
	}
}

// P1 of the document: all functions end, and Valid is right, for all numbers, also where other results are not specified.
func TestAllNumbers(t *testing.T) {
	g := rand.New(rand.NewSource(66))
	ends := []int{least, least + 1, least + 20, least + 40, -far - 1, -far, -11, -10, 0, 10, 11, far, far + 1, greatest - 40, greatest - 20, greatest - 1, greatest}
	number := func() int {
		if g.Intn(3) == 0 {
			return int(g.Uint64())
		}
		return pick(g, ends)
	}
	for range 100000 {
		c := api.Clock{Ahead: number()}
		if got := answersOf(c, number(), number(), number()); got.valid != (c.Ahead >= -10 && c.Ahead <= 10) || got.wait < 0 || got.valid && !clock.Valid(got.drift) {
			t.Fatalf("%v: %v", c, got)
		}
	}
}

// P2 of the document: no argument is modified, and the same arguments have the same results, whatever was asked before.
func TestArguments(t *testing.T) {
	g := rand.New(rand.NewSource(67))
	odd := oddTimes()
	type question struct {
		c                api.Clock
		until, shown, by int
	}
	var asked []question
	var heard []answers
	for range 5000 {
		until := someTime(g, odd, 0)
		q := question{pick(g, everyClock()), until, someTime(g, odd, until), g.Intn(51) - 25}
		p := q
		asked, heard = append(asked, q), append(heard, answersOf(p.c, p.until, p.shown, p.by))
		if p != q {
			t.Fatalf("%v has become %v", q, p)
		}
	}
	for _, i := range g.Perm(len(asked)) {
		q := asked[i]
		if got := answersOf(q.c, q.until, q.shown, q.by); got != heard[i] {
			t.Fatalf("%v: %v, and again %v", q, heard[i], got)
		}
	}
}

// P2 of the document: what is asked at the same time does not matter.
func TestAtOnce(t *testing.T) {
	wrong := make([]bool, 8)
	var wait sync.WaitGroup
	for i := range wrong {
		want := modelOf(of(i-4), 100*i, 90*i, 3*i)
		wait.Go(func() {
			for range 1000 {
				wrong[i] = wrong[i] || answersOf(of(i-4), 100*i, 90*i, 3*i) != want
			}
		})
	}
	wait.Wait()
	if slices.Contains(wrong, true) {
		t.Error("there were other results")
	}
}

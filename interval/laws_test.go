package interval

import (
	"math/big"
	"math/rand"
	"slices"
	"testing"

	"lookout/api"
)

// A combination is an operation of two intervals, with what the standard library calculates for two elements.
type combination struct {
	name string
	f    pairOperation
	want func(z, v, w *big.Rat) *big.Rat
}

// combinations are those of P4.2: the arithmetic, Min and Max.
func combinations() []combination {
	lesser := func(_, v, w *big.Rat) *big.Rat {
		if v.Cmp(w) < 0 {
			return v
		}
		return w
	}
	greater := func(_, v, w *big.Rat) *big.Rat {
		if v.Cmp(w) > 0 {
			return v
		}
		return w
	}
	l := []combination{{"Min", withoutError(Min), lesser}, {"Max", withoutError(Max), greater}}
	for _, o := range arithmetic {
		l = append(l, combination{o.name, o.f, o.want})
	}
	return l
}

func withoutError(f func(x, y api.Interval) api.Interval) pairOperation {
	return func(x, y api.Interval) (api.Interval, api.Errno) { return f(x, y), api.OK }
}

// elements returns elements of x: its ends, some between them, and those of a list.
func elements(x api.Interval, others []api.Ratio) []*big.Rat {
	lo, hi := exact(x.Lo), exact(x.Hi)
	middle := new(big.Rat).Add(lo, hi)
	middle.Quo(middle, big.NewRat(2, 1))
	near := new(big.Rat).Add(lo, middle)
	near.Quo(near, big.NewRat(2, 1))
	l := []*big.Rat{lo, hi, middle, near}
	for _, v := range others {
		if has(x, exact(v)) {
			l = append(l, exact(v))
		}
	}
	return l
}

// has reports whether a number is an element of a valid interval.
func has(x api.Interval, v *big.Rat) bool {
	return exact(x.Lo).Cmp(v) <= 0 && v.Cmp(exact(x.Hi)) <= 0
}

// P4.2: the results for elements are elements of the results.
func TestContainment(t *testing.T) {
	count := 0
	for x, y := range pairs(intervals(grid(4, 2)), 1) {
		count += checkContainment(t, x, y, grid(8, 4))
	}
	for x, y := range pairs(intervals(extremes()), 53) {
		count += checkContainment(t, x, y, []api.Ratio{whole(0), frac(1, most-2), frac(-1, 7), whole(1), whole(most - 2)})
	}
	if count < 400000 {
		t.Errorf("only %d results", count)
	}
}

// checkContainment returns how many results for elements it has tested.
func checkContainment(t *testing.T, x, y api.Interval, others []api.Ratio) int {
	t.Helper()
	count := 0
	lefts, rights := elements(x, others), elements(y, others)
	for _, o := range combinations() {
		z, e := o.f(x, y)
		if e != api.OK {
			continue
		}
		for _, v := range lefts {
			for _, w := range rights {
				if r := o.want(new(big.Rat), v, w); !has(z, r) {
					t.Errorf("%s of %v and %v: %v does not have %v for %v and %v", o.name, x, y, z, r, v, w)
				}
				count++
			}
		}
	}
	return count
}

// P4.3: what contains the results for the ends contains the result.
func TestLeastIntervals(t *testing.T) {
	count := 0
	for x, y := range pairs(intervals(grid(6, 2)), 1) {
		count += checkLeast(t, x, y, []api.Ratio{whole(-9), whole(-1), frac(-1, 9), whole(0), frac(1, 9), whole(1), whole(9)})
	}
	for x, y := range pairs(intervals(extremes()), 53) {
		count += checkLeast(t, x, y, []api.Ratio{whole(-most), frac(-1, most), whole(0), frac(1, most), whole(most)})
	}
	if count < 200000 {
		t.Errorf("only %d intervals", count)
	}
}

// checkLeast tests intervals whose ends are results for the ends of x and y, or others. It returns how many of them contain all these results.
func checkLeast(t *testing.T, x, y api.Interval, others []api.Ratio) int {
	t.Helper()
	count := 0
	for _, o := range combinations() {
		z, e := o.f(x, y)
		if e != api.OK {
			continue
		}
		var results []*big.Rat
		ends := others
		for _, pair := range allEnds(x, y) {
			r := o.want(new(big.Rat), exact(pair[0]), exact(pair[1]))
			results = append(results, r)
			if v, e := fitting(r); e == api.OK {
				ends = append(slices.Clip(ends), v)
			}
		}
		for _, around := range containing(ends, slices.MinFunc(results, (*big.Rat).Cmp), slices.MaxFunc(results, (*big.Rat).Cmp)) {
			if !Contains(around, z) {
				t.Errorf("%s of %v and %v: %v is not contained in %v", o.name, x, y, z, around)
			}
			count++
		}
	}
	return count
}

// containing returns the intervals with ends of a list that contain both numbers, the first of which is not greater.
func containing(ends []api.Ratio, least, greatest *big.Rat) []api.Interval {
	var lows, highs []api.Ratio
	for _, v := range ends {
		if exact(v).Cmp(least) <= 0 {
			lows = append(lows, v)
		}
		if exact(v).Cmp(greatest) >= 0 {
			highs = append(highs, v)
		}
	}
	var l []api.Interval
	for _, lo := range lows {
		for _, hi := range highs {
			l = append(l, between(lo, hi))
		}
	}
	return l
}

// nested returns an interval and one that it contains, with ends of a list in ascending order.
func nested(random *rand.Rand, ends []api.Ratio) (outer, inner api.Interval) {
	at := []int{random.Intn(len(ends)), random.Intn(len(ends)), random.Intn(len(ends)), random.Intn(len(ends))}
	slices.Sort(at)
	return between(ends[at[0]], ends[at[3]]), between(ends[at[1]], ends[at[2]])
}

// P4.4: what is contained has results that are contained.
func TestMonotony(t *testing.T) {
	count := 0
	small := intervals(grid(3, 1))
	for x, inX := range pairs(small, 1) {
		if !Contains(x, inX) {
			continue
		}
		for y, inY := range pairs(small, 1) {
			if Contains(y, inY) {
				count += checkMonotony(t, x, y, inX, inY)
			}
		}
	}
	if count < 200000 {
		t.Errorf("only %d results", count)
	}
	count = 0
	random := rand.New(rand.NewSource(4))
	for range 20000 {
		x, inX := nested(random, extremes())
		y, inY := nested(random, extremes())
		count += checkMonotony(t, x, y, inX, inY)
	}
	if count < 60000 {
		t.Errorf("only %d results of great intervals", count)
	}
}

// checkMonotony returns how many of the results are not errors.
func checkMonotony(t *testing.T, x, y, inX, inY api.Interval) int {
	t.Helper()
	count := 0
	for _, o := range append(combinations(), combination{"Hull", withoutError(Hull), nil}) {
		outer, e := o.f(x, y)
		inner, f := o.f(inX, inY)
		if e != api.OK || f != api.OK {
			continue
		}
		if !Contains(outer, inner) {
			t.Errorf("%s of %v and %v: %v does not contain %v for %v and %v", o.name, x, y, outer, inner, inX, inY)
		}
		count++
	}
	return count
}

// P4.5: what is decided has this answer for all elements.
func TestDecisions(t *testing.T) {
	decided := 0
	for x, y := range pairs(intervals(grid(4, 2)), 1) {
		decided += checkDecision(t, x, y, grid(8, 4))
	}
	for x, y := range pairs(intervals(extremes()), 53) {
		decided += checkDecision(t, x, y, []api.Ratio{frac(-1, 7), whole(0), frac(1, most-2)})
	}
	if decided < 10000 {
		t.Errorf("only %d decisions", decided)
	}
}

// checkDecision returns how many operators are decided.
func checkDecision(t *testing.T, x, y api.Interval, others []api.Ratio) int {
	t.Helper()
	decided := 0
	lefts, rights := elements(x, others), elements(y, others)
	for _, o := range operators {
		n := Compare(o.op, x, y)
		if n == -1 {
			continue
		}
		decided++
		for _, v := range lefts {
			for _, w := range rights {
				if o.holds(v.Cmp(w)) != (n == 1) {
					t.Errorf("operator %d with %v and %v: %d, not for %v and %v", o.op, x, y, n, v, w)
				}
			}
		}
	}
	return decided
}

// P4.5: opposites, and exchanged sides. Here also what is not valid.
func TestOpposites(t *testing.T) {
	for x, y := range pairs(append(intervals(grid(4, 2)), none, wholes(1, 0), Point(frac(2, 4))), 1) {
		checkOpposites(t, x, y)
	}
	for x, y := range pairs(intervals(extremes()), 53) {
		checkOpposites(t, x, y)
	}
}

func checkOpposites(t *testing.T, x, y api.Interval) {
	t.Helper()
	for _, o := range operators {
		n := Compare(o.op, x, y)
		opposite := -1
		if n != -1 {
			opposite = 1 - n
		}
		if m := Compare(o.opposite, x, y); m != opposite {
			t.Errorf("operators %d and %d with %v and %v: %d and %d", o.op, o.opposite, x, y, n, m)
		}
		if m := Compare(o.exchanged, y, x); m != n {
			t.Errorf("operators %d and %d with %v and %v, exchanged: %d and %d", o.op, o.exchanged, x, y, n, m)
		}
	}
}

// P4.6: the order, the grouping and repetition of operands change nothing.
func TestLattice(t *testing.T) {
	all := append(intervals(grid(2, 1)), wholes(-most, most), wholes(most-1, most), between(frac(1, most), frac(1, most-1)), between(frac(-1, most), whole(2)), between(frac(most-1, most), frac(most, most-1)), none, wholes(1, 0), Point(frac(2, 4)))
	for _, o := range lattice {
		for _, x := range all {
			same := x
			if Check(x) != api.OK {
				same = none
			}
			if z := o.f(x, x); z != same {
				t.Errorf("%s of %v twice: %v", o.name, x, z)
			}
			for _, y := range all {
				if a, b := o.f(x, y), o.f(y, x); a != b {
					t.Errorf("%s of %v and %v: %v and %v", o.name, x, y, a, b)
				}
				for _, z := range all {
					if a, b := o.f(o.f(x, y), z), o.f(x, o.f(y, z)); a != b {
						t.Errorf("%s of %v, %v and %v: %v and %v", o.name, x, y, z, a, b)
					}
				}
			}
		}
	}
}

// P4.6: a hull contains both, and is contained in each interval that does.
func TestHull(t *testing.T) {
	count := 0
	all := append(intervals(grid(3, 1)), wholes(-most, most), between(frac(-1, most), frac(1, most)), between(frac(1, most), whole(3)))
	for x, y := range pairs(all, 1) {
		hull := Hull(x, y)
		if !Contains(hull, x) || !Contains(hull, y) {
			t.Errorf("%v and %v: %v", x, y, hull)
		}
		for _, z := range all {
			if !Contains(z, x) || !Contains(z, y) {
				continue
			}
			if !Contains(z, hull) {
				t.Errorf("%v and %v: %v is not contained in %v", x, y, hull, z)
			}
			count++
		}
	}
	if count < 3000 {
		t.Errorf("only %d intervals", count)
	}
}

package interval

import (
	"iter"
	"math"
	"math/big"
	"slices"
	"testing"

	"lookout/api"
)

const most = api.MaxInt

var (
	none  = api.Interval{}
	bound = big.NewInt(most)
)

type pairOperation = func(x, y api.Interval) (api.Interval, api.Errno)

// arithmetic is Add, Sub, Mul and Div: with what the standard library calculates for two elements (the divisor is not 0), and with the pairs of ends whose results matter, in the order in which the chapter names them.
var arithmetic = []struct {
	name string
	f    pairOperation
	want func(z, v, w *big.Rat) *big.Rat
	ends func(x, y api.Interval) [][2]api.Ratio
}{
	{"Add", Add, (*big.Rat).Add, func(x, y api.Interval) [][2]api.Ratio { return [][2]api.Ratio{{x.Lo, y.Lo}, {x.Hi, y.Hi}} }},
	{"Sub", Sub, (*big.Rat).Sub, func(x, y api.Interval) [][2]api.Ratio { return [][2]api.Ratio{{x.Lo, y.Hi}, {x.Hi, y.Lo}} }},
	{"Mul", Mul, (*big.Rat).Mul, allEnds},
	{"Div", Div, (*big.Rat).Quo, allEnds},
}

func allEnds(x, y api.Interval) [][2]api.Ratio {
	return [][2]api.Ratio{{x.Lo, y.Lo}, {x.Lo, y.Hi}, {x.Hi, y.Lo}, {x.Hi, y.Hi}}
}

// lattice is Hull, Min and Max.
var lattice = []struct {
	name string
	f    func(x, y api.Interval) api.Interval
}{{"Hull", Hull}, {"Min", Min}, {"Max", Max}}

// operators are those of comparisons, with what they say of two elements by their order, which is -1, 0 or 1.
var operators = []struct {
	op, opposite, exchanged int
	holds                   func(order int) bool
}{
	{api.EqualOp, api.NotEqualOp, api.EqualOp, func(order int) bool { return order == 0 }},
	{api.NotEqualOp, api.EqualOp, api.NotEqualOp, func(order int) bool { return order != 0 }},
	{api.LessOp, api.GreaterEqualOp, api.GreaterOp, func(order int) bool { return order == -1 }},
	{api.LessEqualOp, api.GreaterOp, api.GreaterEqualOp, func(order int) bool { return order <= 0 }},
	{api.GreaterOp, api.LessEqualOp, api.LessOp, func(order int) bool { return order == 1 }},
	{api.GreaterEqualOp, api.LessOp, api.LessEqualOp, func(order int) bool { return order >= 0 }},
}

func frac(num, den int) api.Ratio {
	return api.Ratio{Num: num, Den: den}
}

func whole(n int) api.Ratio {
	return frac(n, 1)
}

func between(lo, hi api.Ratio) api.Interval {
	return api.Interval{Lo: lo, Hi: hi}
}

// wholes returns the interval of two integers.
func wholes(lo, hi int) api.Interval {
	return between(whole(lo), whole(hi))
}

func exact(v api.Ratio) *big.Rat {
	return big.NewRat(int64(v.Num), int64(v.Den))
}

// fitting returns the valid fraction of a number, or ErrOverflow if it has none. The standard library keeps fractions reduced.
func fitting(v *big.Rat) (api.Ratio, api.Errno) {
	if v.Num().CmpAbs(bound) > 0 || v.Denom().Cmp(bound) > 0 {
		return api.Ratio{}, api.ErrOverflow
	}
	return frac(int(v.Num().Int64()), int(v.Denom().Int64())), api.OK
}

// extremes returns valid fractions of both signs in ascending order: small ones, and those at the ends of what fits.
func extremes() []api.Ratio {
	l := []api.Ratio{whole(0)}
	for _, v := range []api.Ratio{frac(1, most), frac(1, most-1), frac(1, 1<<30), frac(1, 3), frac(1, 2), frac(most-1, most), whole(1), frac(most, most-1), frac(3, 2), whole(2), whole(1 << 30), whole(most / 2), whole(most - 1), whole(most)} {
		l = append(l, v, frac(-v.Num, v.Den))
	}
	slices.SortFunc(l, func(v, w api.Ratio) int { return exact(v).Cmp(exact(w)) })
	return l
}

// grid returns all fractions with a denominator from -n/den to n/den in ascending order. The denominator is 1, 2 or 4.
func grid(n, den int) []api.Ratio {
	var l []api.Ratio
	for num := -n; num <= n; num++ {
		v, _ := fitting(big.NewRat(int64(num), int64(den)))
		l = append(l, v)
	}
	return l
}

// intervals returns all intervals whose ends are in an ascending list.
func intervals(ends []api.Ratio) []api.Interval {
	var l []api.Interval
	for i, lo := range ends {
		for _, hi := range ends[i:] {
			l = append(l, between(lo, hi))
		}
	}
	return l
}

// pairs yields every step-th pair of intervals of a list; the step is 1 for all of them.
func pairs(l []api.Interval, step int) iter.Seq2[api.Interval, api.Interval] {
	return func(yield func(x, y api.Interval) bool) {
		for i := 0; i < len(l)*len(l); i += step {
			if !yield(l[i/len(l)], l[i%len(l)]) {
				return
			}
		}
	}
}

// notFractions returns fractions that are not valid, for each of the reasons.
func notFractions() []api.Ratio {
	return []api.Ratio{
		frac(0, 0), frac(1, 0), frac(-1, 0), frac(0, -1), frac(1, -1), frac(-1, -2), frac(1, math.MinInt), frac(math.MinInt, math.MinInt),
		whole(most + 1), whole(-most - 1), whole(math.MaxInt), whole(math.MinInt), frac(1, most+1), frac(-1, math.MaxInt),
		frac(0, 2), frac(2, 2), frac(2, 4), frac(-6, 3), frac(most, most), frac(math.MinInt, 2),
	}
}

// notIntervals returns intervals that are not valid, with what Check says of them.
func notIntervals() map[api.Interval]api.Errno {
	l := map[api.Interval]api.Errno{
		none:                                    api.ErrArgument,
		wholes(2, 1):                            api.ErrOrder,
		wholes(0, -1):                           api.ErrOrder,
		wholes(most, -most):                     api.ErrOrder,
		wholes(most, most-1):                    api.ErrOrder,
		between(whole(1), frac(most-1, most)):   api.ErrOrder,
		between(frac(1, most-1), frac(1, most)): api.ErrOrder,
		between(frac(-1, most), frac(-1, most-1)): api.ErrOrder,
	}
	for _, v := range notFractions() {
		l[Point(v)] = api.ErrArgument
		// With some of these ends, Lo would be greater than Hi.
		for _, w := range []api.Ratio{whole(-most), whole(-3), whole(0), frac(1, 3), whole(most)} {
			l[between(v, w)] = api.ErrArgument
			l[between(w, v)] = api.ErrArgument
		}
	}
	return l
}

// samples returns elements of x that decide all comparisons with y, in any order: its ends, and the ends of y that it has. If x and y have a common element, they have such a one.
func samples(x, y api.Interval) []*big.Rat {
	lo, hi := exact(x.Lo), exact(x.Hi)
	l := []*big.Rat{lo, hi}
	for _, v := range []*big.Rat{exact(y.Lo), exact(y.Hi)} {
		if lo.Cmp(v) <= 0 && v.Cmp(hi) <= 0 {
			l = append(l, v)
		}
	}
	return l
}

// decision returns what Compare must return for two valid intervals, by comparing elements with each other.
func decision(holds func(order int) bool, x, y api.Interval) int {
	yes, no := 0, 0
	for _, v := range samples(x, y) {
		for _, w := range samples(y, x) {
			if holds(v.Cmp(w)) {
				yes++
			} else {
				no++
			}
		}
	}
	switch {
	case no == 0:
		return 1
	case yes == 0:
		return 0
	}
	return -1
}

// expected returns the interval from the least to the greatest of the results for pairs of ends, calculated by the standard library, or ErrOverflow if one of them does not fit.
func expected(want func(z, v, w *big.Rat) *big.Rat, ends [][2]api.Ratio) (api.Interval, api.Errno) {
	var l []*big.Rat
	for _, pair := range ends {
		v := want(new(big.Rat), exact(pair[0]), exact(pair[1]))
		if _, e := fitting(v); e != api.OK {
			return none, e
		}
		l = append(l, v)
	}
	slices.SortFunc(l, (*big.Rat).Cmp)
	lo, _ := fitting(l[0])
	hi, _ := fitting(l[len(l)-1])
	return between(lo, hi), api.OK
}

// divisorError returns why a valid interval is no divisor.
func divisorError(y api.Interval) api.Errno {
	switch {
	case y.Lo.Num == 0 && y.Hi.Num == 0:
		return api.ErrDivide
	case y.Lo.Num <= 0 && 0 <= y.Hi.Num:
		return api.ErrUncertain
	}
	return api.OK
}

func checkInterval(t *testing.T, x api.Interval, e api.Errno, want api.Interval, wantError api.Errno, what ...any) {
	t.Helper()
	if x != want || e != wantError {
		t.Errorf("%v: %v, error %d instead of %v, error %d", what, x, e, want, wantError)
	}
}

// checkArithmetic compares the operations on two valid intervals with the standard library. It returns how many results fit.
func checkArithmetic(t *testing.T, x, y api.Interval) int {
	t.Helper()
	fit := 0
	for _, o := range arithmetic {
		z, e := o.f(x, y)
		if divisor := divisorError(y); o.name == "Div" && divisor != api.OK {
			checkInterval(t, z, e, none, divisor, o.name, x, y)
			continue
		}
		want, wantError := expected(o.want, o.ends(x, y))
		checkInterval(t, z, e, want, wantError, o.name, x, y)
		if e == api.OK {
			fit++
		}
	}
	return fit
}

// checkOrder compares the functions of order for two valid intervals with what the standard library finds.
func checkOrder(t *testing.T, x, y api.Interval) {
	t.Helper()
	low, high := exact(x.Lo).Cmp(exact(y.Lo)), exact(x.Hi).Cmp(exact(y.Hi))
	hull, least, greatest := y, y, y
	if low < 0 {
		hull.Lo, least.Lo = x.Lo, x.Lo
	} else {
		greatest.Lo = x.Lo
	}
	if high < 0 {
		least.Hi = x.Hi
	} else {
		hull.Hi, greatest.Hi = x.Hi, x.Hi
	}
	if z := Hull(x, y); z != hull {
		t.Errorf("Hull of %v and %v: %v instead of %v", x, y, z, hull)
	}
	if z := Min(x, y); z != least {
		t.Errorf("Min of %v and %v: %v instead of %v", x, y, z, least)
	}
	if z := Max(x, y); z != greatest {
		t.Errorf("Max of %v and %v: %v instead of %v", x, y, z, greatest)
	}
	if is, want := Contains(x, y), low <= 0 && high >= 0; is != want {
		t.Errorf("%v contains %v: %t", x, y, is)
	}
	for _, o := range operators {
		if n, want := Compare(o.op, x, y), decision(o.holds, x, y); n != want {
			t.Errorf("operator %d with %v and %v: %d instead of %d", o.op, x, y, n, want)
		}
	}
}

// checkOne compares the functions of one valid interval with what the standard library finds.
func checkOne(t *testing.T, x api.Interval) {
	t.Helper()
	if e := Check(x); e != api.OK {
		t.Errorf("%v: error %d", x, e)
	}
	w, e := Width(x)
	want, wantError := fitting(new(big.Rat).Sub(exact(x.Hi), exact(x.Lo)))
	if w != want || e != wantError {
		t.Errorf("Width of %v: %v, error %d instead of %v, error %d", x, w, e, want, wantError)
	}
}

// P4.1: what is valid, and for the rest the first error.
func TestCheck(t *testing.T) {
	for _, x := range intervals(extremes()) {
		checkOne(t, x)
	}
	for x, want := range notIntervals() {
		if e := Check(x); e != want {
			t.Errorf("%v: error %d instead of %d", x, e, want)
		}
	}
	for i, lo := range extremes() {
		for k, hi := range extremes() {
			want := api.OK
			if i > k {
				want = api.ErrOrder
			}
			if e := Check(between(lo, hi)); e != want {
				t.Errorf("%v to %v: error %d instead of %d", lo, hi, e, want)
			}
		}
	}
}

// P4.1: points, of fractions that are not valid as well.
func TestPoint(t *testing.T) {
	for _, v := range slices.Concat(extremes(), notFractions()) {
		if x := Point(v); x.Lo != v || x.Hi != v {
			t.Errorf("%v: %v", v, x)
		}
	}
	if Check(Point(frac(-3, 4))) != api.OK || Check(Point(frac(2, 4))) != api.ErrArgument || Point(api.Ratio{}) != none {
		t.Error("points")
	}
}

// P4.1: some results, written out.
func TestArithmetic(t *testing.T) {
	for _, c := range []struct {
		f          pairOperation
		x, y, want api.Interval
		e          api.Errno
	}{
		{Add, wholes(1, 2), wholes(10, 20), wholes(11, 22), api.OK},
		{Add, wholes(-1, 2), wholes(-3, -3), wholes(-4, -1), api.OK},
		{Add, Point(frac(1, 6)), Point(frac(1, 10)), Point(frac(4, 15)), api.OK},
		{Sub, wholes(1, 2), wholes(10, 20), wholes(-19, -8), api.OK},
		{Sub, wholes(1, 2), wholes(1, 2), wholes(-1, 1), api.OK},
		{Sub, wholes(-1, 2), wholes(3, 3), wholes(-4, -1), api.OK},
		{Mul, wholes(-1, 2), wholes(3, 4), wholes(-4, 8), api.OK},
		{Mul, wholes(1, 2), wholes(3, 4), wholes(3, 8), api.OK},
		{Mul, wholes(-2, -1), wholes(3, 4), wholes(-8, -3), api.OK},
		{Mul, wholes(-2, -1), wholes(-4, -3), wholes(3, 8), api.OK},
		{Mul, wholes(-2, 5), wholes(-4, 3), wholes(-20, 15), api.OK},
		{Mul, wholes(-5, 2), wholes(-4, 3), wholes(-15, 20), api.OK},
		{Mul, wholes(-5, 2), wholes(0, 0), wholes(0, 0), api.OK},
		{Mul, wholes(most, most), between(frac(1, most), frac(1, 2)), wholes(1, most/2), api.OK},
		{Div, wholes(1, 2), wholes(4, 8), between(frac(1, 8), frac(1, 2)), api.OK},
		{Div, wholes(1, 2), wholes(-8, -4), between(frac(-1, 2), frac(-1, 8)), api.OK},
		{Div, wholes(-1, 2), wholes(4, 8), between(frac(-1, 4), frac(1, 2)), api.OK},
		{Div, wholes(-1, 2), wholes(-8, -4), between(frac(-1, 2), frac(1, 4)), api.OK},
		{Div, wholes(0, 0), wholes(3, 4), wholes(0, 0), api.OK},
		{Div, wholes(1, 1), between(frac(1, most), frac(1, 2)), wholes(2, most), api.OK},
		{Div, wholes(1, 2), wholes(0, 0), none, api.ErrDivide},
		{Div, wholes(0, 0), wholes(0, 0), none, api.ErrDivide},
		{Div, wholes(1, 2), wholes(0, 1), none, api.ErrUncertain},
		{Div, wholes(1, 2), wholes(-1, 0), none, api.ErrUncertain},
		{Div, wholes(1, 2), wholes(-1, 1), none, api.ErrUncertain},
		{Div, wholes(0, 0), wholes(-1, 1), none, api.ErrUncertain},
		{Div, wholes(1, 2), between(frac(-1, most), frac(1, most)), none, api.ErrUncertain},
	} {
		z, e := c.f(c.x, c.y)
		checkInterval(t, z, e, c.want, c.e, c.x, c.y)
	}
}

// P4.1: all pairs of many intervals, most of which have great ends.
func TestArithmeticOfExtremes(t *testing.T) {
	fit, count := 0, 0
	for x, y := range pairs(intervals(extremes()), 11) {
		fit += checkArithmetic(t, x, y)
		count++
	}
	if fit < count/2 || count < 15000 {
		t.Errorf("only %d results of %d pairs fit", fit, count)
	}
}

// P4.1: all pairs of small intervals, which touch, share ends, or contain each other.
func TestSmall(t *testing.T) {
	for x, y := range pairs(intervals(grid(6, 2)), 1) {
		checkOne(t, x)
		checkArithmetic(t, x, y)
		checkOrder(t, x, y)
	}
}

// P4.1: the order of intervals with great ends, and with ends that differ as little as possible.
func TestOrderOfExtremes(t *testing.T) {
	for x, y := range pairs(intervals(extremes()), 7) {
		checkOrder(t, x, y)
	}
}

// P4.1: results of which only one does not fit, also if it lies between the others.
func TestOverflow(t *testing.T) {
	tiny := frac(1, most)
	minusTiny := frac(-1, most)
	half := frac(1, 2)
	minusHalf := frac(-1, 2)
	for _, c := range []struct {
		operation, which int
		x, y             api.Interval
	}{
		{0, 0, wholes(-most, 0), wholes(-1, 0)},
		{0, 1, wholes(0, most), wholes(0, 1)},
		{0, 0, between(tiny, whole(1)), between(frac(1, 3), whole(1))},
		{0, 1, between(whole(-1), minusTiny), between(whole(-1), frac(-1, 3))},
		{1, 0, wholes(-most, 0), wholes(0, 1)},
		{1, 1, wholes(0, most), wholes(-1, 0)},
		{1, 0, between(tiny, whole(1)), between(whole(-1), frac(1, 3))},
		{1, 1, between(whole(-1), tiny), between(frac(-1, 3), whole(1))},
		{2, 0, wholes(-most, 1), wholes(-2, 1)},
		{2, 1, wholes(-most, 1), wholes(1, 2)},
		{2, 2, wholes(1, most), wholes(-2, 1)},
		{2, 3, wholes(1, most), wholes(1, 2)},
		{2, 0, between(minusTiny, whole(1)), between(minusHalf, whole(1))},
		{2, 1, between(minusTiny, whole(1)), between(whole(-1), half)},
		{2, 2, between(whole(-1), tiny), between(minusHalf, whole(1))},
		{2, 3, between(whole(-1), tiny), between(whole(-1), half)},
		{3, 0, wholes(-most, 1), between(half, whole(1))},
		{3, 1, wholes(-most, 1), between(whole(-1), minusHalf)},
		{3, 2, wholes(1, most), between(half, whole(1))},
		{3, 3, wholes(1, most), between(whole(-1), minusHalf)},
		{3, 0, between(minusTiny, whole(1)), wholes(-2, -1)},
		{3, 1, between(minusTiny, whole(1)), wholes(1, 2)},
		{3, 2, between(whole(-1), tiny), wholes(-2, -1)},
		{3, 3, between(whole(-1), tiny), wholes(1, 2)},
	} {
		o := arithmetic[c.operation]
		for i, pair := range o.ends(c.x, c.y) {
			_, e := fitting(o.want(new(big.Rat), exact(pair[0]), exact(pair[1])))
			if (e != api.OK) != (i == c.which) {
				t.Errorf("%s, %v and %v: error %d of result %d", o.name, c.x, c.y, e, i)
			}
		}
		z, e := o.f(c.x, c.y)
		checkInterval(t, z, e, none, api.ErrOverflow, o.name, c.x, c.y)
	}
}

// P4.1: results that just fit, though the ends are great.
func TestJustFits(t *testing.T) {
	for _, c := range []struct {
		f          pairOperation
		x, y, want api.Interval
	}{
		{Add, wholes(-most, most), wholes(0, 0), wholes(-most, most)},
		{Add, wholes(1-most, most-1), wholes(-1, 1), wholes(-most, most)},
		{Add, wholes(-most, most), wholes(1, 1), none},
		{Sub, wholes(-most, 0), wholes(-most, 0), wholes(-most, most)},
		{Sub, wholes(-most, -most), wholes(-most, -most), wholes(0, 0)},
		{Mul, wholes(-most, most), wholes(-1, 1), wholes(-most, most)},
		{Mul, between(frac(-1, most), whole(most)), wholes(1, 1), between(frac(-1, most), whole(most))},
		{Div, wholes(-most, most), wholes(-1, -1), wholes(-most, most)},
		{Div, wholes(most, most), wholes(1, most), wholes(1, most)},
	} {
		wantError := api.OK
		if c.want == none {
			wantError = api.ErrOverflow
		}
		z, e := c.f(c.x, c.y)
		checkInterval(t, z, e, c.want, wantError, c.x, c.y)
	}
}

// P4.1: intervals that are not valid, on either side, before all other errors.
func TestNotValid(t *testing.T) {
	others := []api.Interval{wholes(0, 0), wholes(-1, 1), wholes(0, 1), wholes(1, 2), wholes(most, most), wholes(-most, most)}
	for x := range notIntervals() {
		others = append(others, x)
	}
	for x := range notIntervals() {
		for _, y := range others {
			for _, pair := range [][2]api.Interval{{x, y}, {y, x}} {
				checkNotValid(t, pair[0], pair[1])
			}
		}
		if w, e := Width(x); w != (api.Ratio{}) || e != api.ErrArgument {
			t.Errorf("Width of %v: %v, error %d", x, w, e)
		}
	}
}

// checkNotValid tests all functions of two intervals of which one is not valid.
func checkNotValid(t *testing.T, x, y api.Interval) {
	t.Helper()
	for _, o := range arithmetic {
		z, e := o.f(x, y)
		checkInterval(t, z, e, none, api.ErrArgument, o.name, x, y)
	}
	for _, o := range lattice {
		checkInterval(t, o.f(x, y), api.OK, none, api.OK, o.name, x, y)
	}
	if Contains(x, y) {
		t.Errorf("%v contains %v", x, y)
	}
	for op := -1; op <= 12; op++ {
		if n := Compare(op, x, y); n != -1 {
			t.Errorf("operator %d with %v and %v: %d", op, x, y, n)
		}
	}
}

// P4.1: the error of a divisor is returned before that of a quotient.
func TestOrderOfErrors(t *testing.T) {
	for _, x := range []api.Interval{wholes(most, most), wholes(-most, most), between(frac(1, most), whole(most))} {
		z, e := Div(x, between(frac(-1, 2), frac(1, 2)))
		checkInterval(t, z, e, none, api.ErrUncertain, x)
		z, e = Div(x, between(frac(-1, 2), whole(0)))
		checkInterval(t, z, e, none, api.ErrUncertain, x)
		z, e = Div(x, between(whole(0), frac(1, 2)))
		checkInterval(t, z, e, none, api.ErrUncertain, x)
		z, e = Div(x, wholes(0, 0))
		checkInterval(t, z, e, none, api.ErrDivide, x)
		z, e = Div(x, Point(frac(1, 2)))
		checkInterval(t, z, e, none, api.ErrOverflow, x)
	}
}

// P4.1: widths at the ends of what fits.
func TestWidth(t *testing.T) {
	for _, c := range []struct {
		x    api.Interval
		want api.Ratio
		e    api.Errno
	}{
		{wholes(3, 3), whole(0), api.OK},
		{wholes(-2, 3), whole(5), api.OK},
		{between(frac(-1, 2), frac(1, 3)), frac(5, 6), api.OK},
		{wholes(0, most), whole(most), api.OK},
		{wholes(-most, 0), whole(most), api.OK},
		{wholes(-1, most-1), whole(most), api.OK},
		{wholes(-most/2, most/2), whole(most), api.OK},
		{wholes(-1, most), api.Ratio{}, api.ErrOverflow},
		{wholes(-most, 1), api.Ratio{}, api.ErrOverflow},
		{wholes(-most, most), api.Ratio{}, api.ErrOverflow},
		{between(frac(1, most), frac(1, most-1)), api.Ratio{}, api.ErrOverflow},
		{between(frac(1, most), frac(1, 2)), frac(most/2-1, most), api.OK},
		{wholes(1, 0), api.Ratio{}, api.ErrArgument},
		{wholes(most, -most), api.Ratio{}, api.ErrArgument},
		{none, api.Ratio{}, api.ErrArgument},
	} {
		if w, e := Width(c.x); w != c.want || e != c.e {
			t.Errorf("%v: %v, error %d instead of %v, error %d", c.x, w, e, c.want, c.e)
		}
	}
}

// P4.1: which elements are there, at the ends and beyond them.
func TestContains(t *testing.T) {
	for _, c := range []struct {
		x, y api.Interval
		want bool
	}{
		{wholes(1, 3), wholes(1, 3), true}, {wholes(1, 3), wholes(2, 2), true}, {wholes(1, 3), wholes(1, 1), true}, {wholes(1, 3), wholes(3, 3), true},
		{wholes(1, 3), wholes(0, 2), false}, {wholes(1, 3), wholes(2, 4), false}, {wholes(1, 3), wholes(0, 4), false}, {wholes(1, 3), wholes(3, 4), false}, {wholes(1, 3), wholes(4, 5), false}, {wholes(1, 3), wholes(-1, 0), false},
		{wholes(2, 2), wholes(2, 2), true}, {wholes(2, 2), wholes(2, 3), false}, {wholes(2, 2), wholes(1, 2), false},
		{wholes(0, 1), between(frac(1, most), frac(most-1, most)), true}, {wholes(0, 1), between(frac(-1, most), frac(1, 2)), false}, {wholes(0, 1), between(frac(1, 2), frac(most, most-1)), false},
		{wholes(-most, most), wholes(-most, most), true}, {wholes(1, 3), wholes(2, 1), false}, {wholes(3, 1), wholes(2, 2), false}, {none, none, false},
	} {
		if is := Contains(c.x, c.y); is != c.want {
			t.Errorf("%v contains %v: %t", c.x, c.y, is)
		}
	}
}

// P4.1, P4.5: some decisions, written out: those of equal, not equal, less, less or equal, greater, greater or equal.
func TestCompare(t *testing.T) {
	for _, c := range []struct {
		x, y api.Interval
		want [6]int
	}{
		{wholes(1, 2), wholes(2, 3), [6]int{-1, -1, -1, 1, 0, -1}},
		{wholes(2, 3), wholes(1, 2), [6]int{-1, -1, 0, -1, -1, 1}},
		{wholes(1, 2), wholes(3, 4), [6]int{0, 1, 1, 1, 0, 0}},
		{wholes(3, 4), wholes(1, 2), [6]int{0, 1, 0, 0, 1, 1}},
		{wholes(1, 2), wholes(1, 2), [6]int{-1, -1, -1, -1, -1, -1}},
		{wholes(1, 3), wholes(2, 4), [6]int{-1, -1, -1, -1, -1, -1}},
		{wholes(1, 4), wholes(2, 3), [6]int{-1, -1, -1, -1, -1, -1}},
		{wholes(1, 4), wholes(2, 2), [6]int{-1, -1, -1, -1, -1, -1}},
		{wholes(2, 2), wholes(2, 2), [6]int{1, 0, 0, 1, 0, 1}},
		{wholes(2, 2), wholes(2, 3), [6]int{-1, -1, -1, 1, 0, -1}},
		{wholes(2, 2), wholes(1, 2), [6]int{-1, -1, 0, -1, -1, 1}},
		{wholes(2, 2), wholes(3, 3), [6]int{0, 1, 1, 1, 0, 0}},
		{Point(frac(1, most)), Point(frac(1, most-1)), [6]int{0, 1, 1, 1, 0, 0}},
	} {
		for i, o := range operators {
			if n := Compare(o.op, c.x, c.y); n != c.want[i] {
				t.Errorf("operator %d with %v and %v: %d instead of %d", o.op, c.x, c.y, n, c.want[i])
			}
		}
	}
}

// P4.1: numbers that are no operators of comparisons.
func TestCompareOthers(t *testing.T) {
	ops := []int{math.MinInt, math.MinInt + 5, -1 << 32, -10, -5, -1, 0, api.AddOp, api.SubOp, api.MulOp, api.DivOp, 11, 12, 15, 69, 1<<32 + 5, math.MaxInt}
	for _, op := range ops {
		for x, y := range pairs(intervals(grid(2, 1)), 1) {
			if n := Compare(op, x, y); n != -1 {
				t.Errorf("operator %d with %v and %v: %d", op, x, y, n)
			}
		}
	}
}

// P4.1: for arbitrary numbers, the results are those of the standard library.
func FuzzIntervals(f *testing.F) {
	f.Add(0, 1, 2, 1, -1, 2, 3, 2, 5)
	f.Add(-most, 1, most, 1, 1, most, 1, most-1, 8)
	f.Add(0, 0, math.MinInt, 2, 3, -1, 1, 0, 11)
	f.Fuzz(func(t *testing.T, a, b, c, d, k, l, m, n, op int) {
		x, y := between(frac(a, b), frac(c, d)), between(frac(k, l), frac(m, n))
		checkAny(t, x, y, op)
		checkAny(t, ordered(x), ordered(y), op)
	})
}

// checkAny tests all functions with any two intervals.
func checkAny(t *testing.T, x, y api.Interval, op int) {
	t.Helper()
	if !isValid(x) || !isValid(y) {
		checkNotValid(t, x, y)
		return
	}
	checkOne(t, x)
	checkOne(t, y)
	checkArithmetic(t, x, y)
	checkOrder(t, x, y)
	if n := Compare(op, x, y); n != -1 && (op < api.EqualOp || op > api.GreaterEqualOp) {
		t.Errorf("operator %d: %d", op, n)
	}
}

// isValid tells what is valid without the program.
func isValid(x api.Interval) bool {
	for _, v := range []api.Ratio{x.Lo, x.Hi} {
		if v.Den < 1 {
			return false
		}
		if w, e := fitting(exact(v)); e != api.OK || v != w {
			return false
		}
	}
	return exact(x.Lo).Cmp(exact(x.Hi)) <= 0
}

// ordered returns an interval of the reduced ends of x in their order, if they have one.
func ordered(x api.Interval) api.Interval {
	if x.Lo.Den == 0 || x.Hi.Den == 0 {
		return x
	}
	lo, _ := fitting(exact(x.Lo))
	hi, _ := fitting(exact(x.Hi))
	if lo.Den != 0 && hi.Den != 0 && exact(lo).Cmp(exact(hi)) > 0 {
		return between(hi, lo)
	}
	return between(lo, hi)
}

package ratio

import (
	"math"
	"math/big"
	"math/rand"
	"regexp"
	"slices"
	"strconv"
	"strings"
	"testing"

	"lookout/api"
)

const most = api.MaxInt

var (
	none  = api.Ratio{}
	bound = big.NewInt(most)
)

type operation = func(x, y api.Ratio) (api.Ratio, api.Errno)

// operations are Add, Sub, Mul and Div, and what the standard library calculates instead; the divisor is not 0.
var operations = []struct {
	name string
	f    operation
	want func(z, x, y *big.Rat) *big.Rat
}{
	{"Add", Add, (*big.Rat).Add}, {"Sub", Sub, (*big.Rat).Sub}, {"Mul", Mul, (*big.Rat).Mul}, {"Div", Div, (*big.Rat).Quo},
}

func frac(num, den int) api.Ratio {
	return api.Ratio{Num: num, Den: den}
}

func exact(x api.Ratio) *big.Rat {
	return big.NewRat(int64(x.Num), int64(x.Den))
}

// fitting returns the valid fraction of a number, or ErrOverflow if it has none. The standard library keeps fractions reduced.
func fitting(x *big.Rat) (api.Ratio, api.Errno) {
	if x.Num().CmpAbs(bound) > 0 || x.Denom().Cmp(bound) > 0 {
		return none, api.ErrOverflow
	}
	return frac(int(x.Num().Int64()), int(x.Denom().Int64())), api.OK
}

// numbers returns numbers from 1 to MaxInt: small ones, those at the ends of words and of half words, primes, and others with many divisors.
func numbers() []int {
	return []int{1, 2, 3, 4, 6, 7, 10, 12, 60, 1<<30 - 1, 1 << 30, 1 << 31, 1<<32 - 1, 1 << 32, 1<<32 + 1, 1000000007, 1e18, 450283905890997363, 614889782588491410, most / 3, most/2 - 1, most / 2, most/2 + 1, most - 93, most - 2, most - 1, most}
}

// integers returns 0, the numbers of both signs, and numbers beyond MaxInt.
func integers() []int {
	l := []int{0, most + 1, most + 2, 2*most - 1, 2 * most, 2*most + 1, 3 * most, 4 * most, 6 * most, 7 * most, math.MaxInt - 1, math.MaxInt}
	for _, n := range slices.Concat(l, numbers()) {
		l = append(l, n, -n)
	}
	l = append(l, math.MinInt, math.MinInt+1)
	slices.Sort(l)
	return slices.Compact(l)
}

// fractions returns all valid fractions with 0 and the numbers as numerators and denominators, in no order.
func fractions() []api.Ratio {
	l := []api.Ratio{frac(0, 1)}
	for _, num := range numbers() {
		for _, den := range numbers() {
			if greatestDivisor(num, den) == 1 {
				l = append(l, frac(num, den), frac(-num, den))
			}
		}
	}
	return l
}

// some returns fractions so that triples of them can be tried: small ones, and great ones which fit in many results.
func some() []api.Ratio {
	l := []api.Ratio{frac(0, 1)}
	for _, x := range []api.Ratio{frac(1, 1), frac(2, 1), frac(1, 2), frac(3, 4), frac(5, 6), frac(7, 10), frac(1<<20, 3), frac(3, 1<<30), frac(most-1, 1), frac(most, 1), frac(1, most), frac(1, most/4), frac(most/2-1, most/2), frac(most-1, most), frac(most, most-1)} {
		l = append(l, x, frac(-x.Num, x.Den))
	}
	return l
}

// greatestDivisor returns the greatest common divisor of two positive numbers.
func greatestDivisor(a, b int) int {
	return int(new(big.Int).GCD(nil, nil, big.NewInt(int64(a)), big.NewInt(int64(b))).Int64())
}

// notValid returns fractions that are not valid, for each of the reasons.
func notValid() []api.Ratio {
	return []api.Ratio{
		// no denominator, or a negative one
		frac(0, 0), frac(1, 0), frac(-1, 0), frac(most, 0), frac(math.MinInt, 0), frac(0, -1), frac(1, -1), frac(-1, -1), frac(1, -2), frac(-3, -4), frac(1, -most), frac(1, math.MinInt), frac(math.MinInt, math.MinInt),
		// numbers that are too great
		frac(1, most+1), frac(-1, most+1), frac(1, math.MaxInt), frac(most+1, 1), frac(-most-1, 1), frac(math.MaxInt, 1), frac(math.MinInt, 1), frac(-math.MaxInt, 1), frac(most+1, 2), frac(most+1, 3), frac(math.MinInt, 3), frac(most+1, most+2),
		// fractions that are not reduced
		frac(0, 2), frac(0, most), frac(2, 2), frac(2, 4), frac(-2, 4), frac(6, 3), frac(-6, 3), frac(10, 15), frac(most, 2), frac(2, most), frac(most, most), frac(-most, most), frac(most-1, 3), frac(1<<31, 1<<32), frac(3<<40, 9), frac(math.MinInt, 2), frac(4*most, 4),
	}
}

func checkRatio(t *testing.T, x api.Ratio, e api.Errno, want api.Ratio, wantError api.Errno, what ...any) {
	t.Helper()
	if x != want || e != wantError {
		t.Errorf("%v: %v, error %d instead of %v, error %d", what, x, e, want, wantError)
	}
}

func checkMake(t *testing.T, num, den int) {
	t.Helper()
	x, e := Make(num, den)
	if den == 0 {
		checkRatio(t, x, e, none, api.ErrDivide, "Make", num, den)
		return
	}
	want, wantError := fitting(new(big.Rat).SetFrac(big.NewInt(int64(num)), big.NewInt(int64(den))))
	checkRatio(t, x, e, want, wantError, "Make", num, den)
}

// checkOperations compares all operations on two valid fractions with the standard library. It returns how many results fit.
func checkOperations(t *testing.T, x, y api.Ratio) int {
	t.Helper()
	fit := 0
	for _, o := range operations {
		z, e := o.f(x, y)
		if o.name == "Div" && y.Num == 0 {
			checkRatio(t, z, e, none, api.ErrDivide, o.name, x, y)
			continue
		}
		want, wantError := fitting(o.want(new(big.Rat), exact(x), exact(y)))
		checkRatio(t, z, e, want, wantError, o.name, x, y)
		if e == api.OK {
			fit++
		}
	}
	return fit
}

// P3.1: fractions of any two integers.
func TestMake(t *testing.T) {
	for _, c := range []struct {
		num, den int
		want     api.Ratio
		e        api.Errno
	}{
		{1, 1, frac(1, 1), api.OK}, {3, 4, frac(3, 4), api.OK}, {6, -8, frac(-3, 4), api.OK}, {-6, -8, frac(3, 4), api.OK}, {-6, 3, frac(-2, 1), api.OK},
		{0, 1, frac(0, 1), api.OK}, {0, -9, frac(0, 1), api.OK}, {0, math.MinInt, frac(0, 1), api.OK},
		{0, 0, none, api.ErrDivide}, {1, 0, none, api.ErrDivide}, {-1, 0, none, api.ErrDivide}, {most + 1, 0, none, api.ErrDivide}, {math.MinInt, 0, none, api.ErrDivide},
		{most, 1, frac(most, 1), api.OK}, {-most, 1, frac(-most, 1), api.OK}, {most, -1, frac(-most, 1), api.OK}, {1, most, frac(1, most), api.OK}, {-1, -most, frac(1, most), api.OK},
		{most + 1, 1, none, api.ErrOverflow}, {-most - 1, 1, none, api.ErrOverflow}, {1, most + 1, none, api.ErrOverflow}, {1, -most - 1, none, api.ErrOverflow}, {most + 1, most + 2, none, api.ErrOverflow},
		{2 * most, 2, frac(most, 1), api.OK}, {-2, 2 * most, frac(-1, most), api.OK}, {2*most + 2, 2, none, api.ErrOverflow}, {2*most + 2, 4, none, api.ErrOverflow}, {2*most + 4, 4, frac(most/2+1, 1), api.OK}, {2*most + 2, most + 1, frac(2, 1), api.OK},
		{math.MinInt, math.MinInt, frac(1, 1), api.OK}, {math.MinInt, 8, frac(-most, 1), api.OK}, {math.MinInt, -8, frac(most, 1), api.OK}, {8, math.MinInt, frac(-1, most), api.OK}, {math.MinInt, 4, none, api.ErrOverflow}, {4, math.MinInt, none, api.ErrOverflow}, {math.MinInt, -1, none, api.ErrOverflow},
		{math.MaxInt, math.MaxInt, frac(1, 1), api.OK}, {math.MaxInt, -math.MaxInt, frac(-1, 1), api.OK}, {math.MaxInt, 49, frac(math.MaxInt/49, 1), api.OK}, {math.MaxInt, 7, none, api.ErrOverflow}, {math.MaxInt, math.MinInt, none, api.ErrOverflow},
	} {
		x, e := Make(c.num, c.den)
		checkRatio(t, x, e, c.want, c.e, c.num, c.den)
	}
	for _, num := range integers() {
		for _, den := range integers() {
			checkMake(t, num, den)
		}
	}
}

// P3.1: small fractions, all of them.
func TestMakeSmall(t *testing.T) {
	for num := -40; num <= 40; num++ {
		for den := -40; den <= 40; den++ {
			checkMake(t, num, den)
		}
	}
}

// P3.1: which fractions are valid, with any two integers.
func TestCheck(t *testing.T) {
	for _, x := range notValid() {
		if e := Check(x); e != api.ErrArgument {
			t.Errorf("%v: error %d", x, e)
		}
	}
	for _, x := range fractions() {
		if e := Check(x); e != api.OK {
			t.Errorf("%v: error %d", x, e)
		}
	}
	for _, num := range integers() {
		for _, den := range integers() {
			want := api.ErrArgument
			if 1 <= den && den <= most && -most <= num && num <= most && (den == 1 || num != 0 && greatestDivisor(max(num, -num), den) == 1) {
				want = api.OK
			}
			if e := Check(frac(num, den)); e != want {
				t.Errorf("%d, %d: error %d instead of %d", num, den, e, want)
			}
		}
	}
}

// P3.1: results that fit, some of which do so only when they are reduced, and those that do not.
func TestOperations(t *testing.T) {
	for _, c := range []struct {
		f          operation
		x, y, want api.Ratio
		e          api.Errno
	}{
		{Add, frac(1, 6), frac(1, 10), frac(4, 15), api.OK},
		{Add, frac(1, most), frac(1, most), frac(1, most/2), api.OK},
		{Add, frac(most-1, most), frac(1, most), frac(1, 1), api.OK},
		{Add, frac(most-1, most), frac(1-most, most), frac(0, 1), api.OK},
		{Add, frac(most-1, 1), frac(1, 1), frac(most, 1), api.OK},
		{Add, frac(most, 1), frac(1, 1), none, api.ErrOverflow},
		{Add, frac(most, 1), frac(most, 1), none, api.ErrOverflow},
		{Add, frac(-most, 1), frac(-1, 1), none, api.ErrOverflow},
		{Add, frac(1, most), frac(1, 1), none, api.ErrOverflow},
		{Add, frac(1, most), frac(-1, 1), frac(1-most, most), api.OK},
		{Add, frac(1, most), frac(1, most-1), none, api.ErrOverflow},
		{Sub, frac(1, 3), frac(1, 2), frac(-1, 6), api.OK},
		{Sub, frac(most, 1), frac(most, 1), frac(0, 1), api.OK},
		{Sub, frac(most, most-1), frac(1, most-1), frac(1, 1), api.OK},
		{Sub, frac(most, 1), frac(-1, 1), none, api.ErrOverflow},
		{Sub, frac(-most, 1), frac(1, 1), none, api.ErrOverflow},
		{Mul, frac(2, 3), frac(-3, 4), frac(-1, 2), api.OK},
		{Mul, frac(most, 1), frac(1, most), frac(1, 1), api.OK},
		{Mul, frac(most-1, most), frac(-most, most-1), frac(-1, 1), api.OK},
		{Mul, frac(1<<30, 1), frac(1<<30, 1), frac(most, 1), api.OK},
		{Mul, frac(1<<31, 1), frac(-1<<30, 1), none, api.ErrOverflow},
		{Mul, frac(1, 1<<31), frac(1, 1<<30), none, api.ErrOverflow},
		{Mul, frac(most, most-1), frac(most, most-1), none, api.ErrOverflow},
		{Mul, frac(0, 1), frac(-1, most), frac(0, 1), api.OK},
		{Div, frac(2, 3), frac(-4, 9), frac(-3, 2), api.OK},
		{Div, frac(-1, 1), frac(-1, most), frac(most, 1), api.OK},
		{Div, frac(most, most-1), frac(most, most-1), frac(1, 1), api.OK},
		{Div, frac(0, 1), frac(-most, most-1), frac(0, 1), api.OK},
		{Div, frac(1, most), frac(2, 1), none, api.ErrOverflow},
		{Div, frac(most, 1), frac(1, 2), none, api.ErrOverflow},
	} {
		z, e := c.f(c.x, c.y)
		checkRatio(t, z, e, c.want, c.e, c.x, c.y)
	}
	all, fit, count := fractions(), 0, 0
	for i, x := range all {
		for k, y := range all {
			if (i+k)%5 == 0 {
				fit += checkOperations(t, x, y)
				count++
			}
		}
	}
	if fit < count/4 || count < 50000 {
		t.Errorf("only %d results of %d pairs fit", fit, count)
	}
}

// P3.1: fractions whose sums and products must be reduced by a great divisor, or by a small one.
func TestOperationsWithCommonDivisors(t *testing.T) {
	random := rand.New(rand.NewSource(3))
	fit := 0
	for range 20000 {
		shared := 1 + random.Intn(1<<random.Intn(60))
		part := func() int { return 1 + random.Intn(most/shared) }
		x, e := Make(random.Intn(most)-most/2, shared*part())
		y, f := Make(random.Intn(most)-most/2, shared*part())
		if e != api.OK || f != api.OK {
			t.Fatalf("errors %d, %d", e, f)
		}
		fit += checkOperations(t, x, y)
		z, e := Make(x.Den-y.Num, x.Den)
		if e == api.OK {
			fit += checkOperations(t, x, z)
			fit += checkOperations(t, z, frac(x.Den, 1))
		}
	}
	if fit < 20000 {
		t.Errorf("only %d results fit", fit)
	}
}

// P3.1: fractions that are not valid, before other errors.
func TestNotValid(t *testing.T) {
	valid := []api.Ratio{frac(0, 1), frac(1, 1), frac(-3, 4), frac(most, 1), frac(1, most)}
	for _, x := range notValid() {
		for _, y := range slices.Concat(valid, notValid()) {
			for _, o := range operations {
				z, e := o.f(x, y)
				checkRatio(t, z, e, none, api.ErrArgument, o.name, x, y)
				z, e = o.f(y, x)
				checkRatio(t, z, e, none, api.ErrArgument, o.name, y, x)
			}
			if a, b := Compare(x, y), Compare(y, x); a != 0 || b != 0 {
				t.Errorf("Compare of %v and %v: %d, %d", x, y, a, b)
			}
		}
		if n, s := Floor(x), Format(x); n != 0 || s != "" {
			t.Errorf("%v: Floor %d, Format %q", x, n, s)
		}
	}
}

// P3.1: quotients by 0, of 0 as well.
func TestDivideByZero(t *testing.T) {
	for _, x := range fractions() {
		z, e := Div(x, frac(0, 1))
		checkRatio(t, z, e, none, api.ErrDivide, x)
	}
}

// P3.1: comparing fractions, also those that differ as little as possible.
func TestCompare(t *testing.T) {
	all := fractions()
	for _, x := range all {
		for _, y := range all {
			if n, want := Compare(x, y), exact(x).Cmp(exact(y)); n != want {
				t.Errorf("%v and %v: %d instead of %d", x, y, n, want)
			}
		}
	}
	for _, n := range []int{4, 5, 10, 1 << 31, 1 << 32, most/2 + 1, most - 1, most} {
		l := []api.Ratio{frac(-n, 1), frac(1-n, 1), frac(-n, n-1), frac(-1, 1), frac(1-n, n), frac(2-n, n-1), frac(-1, n-1), frac(-1, n), frac(0, 1), frac(1, n), frac(1, n-1), frac(n-2, n-1), frac(n-1, n), frac(1, 1), frac(n, n-1), frac(n-1, 1), frac(n, 1)}
		for i, x := range l {
			for k, y := range l {
				want := 0
				if i < k {
					want = -1
				} else if i > k {
					want = 1
				}
				if got := Compare(x, y); got != want {
					t.Errorf("%v and %v: %d instead of %d", x, y, got, want)
				}
			}
		}
	}
}

// P3.1: the texts of fractions.
func TestFormat(t *testing.T) {
	for _, c := range []struct {
		x api.Ratio
		s string
	}{
		{frac(0, 1), "0"}, {frac(1, 1), "1"}, {frac(-1, 1), "-1"}, {frac(100, 1), "100"}, {frac(3, 5), "3/5"}, {frac(-3, 4), "-3/4"}, {frac(10, 9), "10/9"},
		{frac(most, 1), "1152921504606846976"}, {frac(-most, 1), "-1152921504606846976"}, {frac(-1, most), "-1/1152921504606846976"}, {frac(most, most-1), "1152921504606846976/1152921504606846975"},
	} {
		if s := Format(c.x); s != c.s {
			t.Errorf("%v: %q instead of %q", c.x, s, c.s)
		}
	}
	for _, x := range fractions() {
		if s := Format(x); s != exact(x).RatString() {
			t.Errorf("%v: %q", x, s)
		}
	}
}

// P3.2: what is made is valid.
func TestMadeIsValid(t *testing.T) {
	made := 0
	for _, num := range integers() {
		for _, den := range integers() {
			x, e := Make(num, den)
			if e != api.OK {
				continue
			}
			made++
			if Check(x) != api.OK || x.Den < 1 || x.Den > most || x.Num < -most || x.Num > most || x.Num != 0 && greatestDivisor(max(x.Num, -x.Num), x.Den) != 1 {
				t.Errorf("%d, %d: %v", num, den, x)
			}
		}
	}
	if made < 2000 {
		t.Errorf("only %d fractions", made)
	}
}

// P3.2: both numbers multiplied by the same one, as long as they are integers.
func TestMakeMultiplied(t *testing.T) {
	factors := []int{1, -1, 2, -2, 3, 7, 8, -8, 9, 60, 1000000007, -1 << 31, 1 << 32, 1 << 61, 1 << 62, math.MinInt}
	nums := slices.Concat([]int{0, 5, 45, 1 << 20, 3 << 40}, integers())
	for _, factor := range factors {
		for _, num := range nums {
			for _, den := range nums {
				if !multiplies(num, factor) || !multiplies(den, factor) {
					continue
				}
				x, e := Make(num, den)
				y, f := Make(num*factor, den*factor)
				checkRatio(t, y, f, x, e, num, den, factor)
			}
		}
	}
}

// multiplies reports whether the product of two numbers is an int.
func multiplies(a, b int) bool {
	return new(big.Int).Mul(big.NewInt(int64(a)), big.NewInt(int64(b))).IsInt64()
}

// chain returns the result of operations one after the other on a first fraction, or the first error.
func chain(x api.Ratio, steps ...func(api.Ratio) (api.Ratio, api.Errno)) (api.Ratio, api.Errno) {
	for _, step := range steps {
		y, e := step(x)
		if e != api.OK {
			return none, e
		}
		x = y
	}
	return x, api.OK
}

// with returns the step that applies an operation with a second fraction.
func with(f operation, y api.Ratio) func(api.Ratio) (api.Ratio, api.Errno) {
	return func(x api.Ratio) (api.Ratio, api.Errno) { return f(x, y) }
}

// A law counts how often two ways to calculate something fit and agree.
type law struct {
	t     *testing.T
	name  string
	count int
}

func (l *law) compare(x api.Ratio, e api.Errno, y api.Ratio, f api.Errno, of ...api.Ratio) {
	l.t.Helper()
	if e != api.OK || f != api.OK {
		return
	}
	l.count++
	if x != y {
		l.t.Errorf("%s, %v: %v and %v", l.name, of, x, y)
	}
}

func (l *law) countAtLeast(n int) {
	l.t.Helper()
	if l.count < n {
		l.t.Errorf("%s: only %d cases fit", l.name, l.count)
	}
}

// P3.3: the order of two operands, and operations that are undone. Here also the errors are the same.
func TestLawsOfTwo(t *testing.T) {
	undone := law{t, "undone", 0}
	all := fractions()
	for i, x := range all {
		for k, y := range all {
			if (i+2*k)%7 != 0 {
				continue
			}
			for _, f := range []operation{Add, Mul} {
				a, e := f(x, y)
				b, g := f(y, x)
				checkRatio(t, b, g, a, e, "commutative", x, y)
			}
			a, e := chain(x, with(Add, y), with(Sub, y))
			undone.compare(a, e, x, api.OK, x, y)
			a, e = chain(x, with(Sub, y), with(Add, y))
			undone.compare(a, e, x, api.OK, x, y)
			if y.Num != 0 {
				a, e = chain(x, with(Mul, y), with(Div, y))
				undone.compare(a, e, x, api.OK, x, y)
				a, e = chain(x, with(Div, y), with(Mul, y))
				undone.compare(a, e, x, api.OK, x, y)
			}
		}
	}
	undone.countAtLeast(20000)
}

// P3.3: the grouping of three operands, and multiplying a sum.
func TestLawsOfThree(t *testing.T) {
	sums, products, distributive := law{t, "sums", 0}, law{t, "products", 0}, law{t, "distributive", 0}
	for _, x := range some() {
		for _, y := range some() {
			for _, z := range some() {
				sum, e := Add(y, z)
				left, f := chain(x, with(Add, y), with(Add, z))
				if e == api.OK {
					right, g := Add(x, sum)
					sums.compare(left, f, right, g, x, y, z)
					multiplied, h := Mul(x, sum)
					first, i := Mul(x, y)
					second, j := Mul(x, z)
					if i == api.OK && j == api.OK {
						added, k := Add(first, second)
						distributive.compare(multiplied, h, added, k, x, y, z)
					}
				}
				if product, e := Mul(y, z); e == api.OK {
					left, f := chain(x, with(Mul, y), with(Mul, z))
					right, g := Mul(x, product)
					products.compare(left, f, right, g, x, y, z)
				}
			}
		}
	}
	sums.countAtLeast(5000)
	products.countAtLeast(5000)
	distributive.countAtLeast(3000)
}

// P3.4: for any two fractions exactly one order holds, equal ones are the same, and orders are passed on.
func TestTotalOrder(t *testing.T) {
	all := fractions()
	slices.SortFunc(all, func(x, y api.Ratio) int { return exact(x).Cmp(exact(y)) })
	for i, x := range all {
		for k, y := range all {
			a, b := Compare(x, y), Compare(y, x)
			if a != -b || a < -1 || a > 1 || (a == 0) != (x == y) || (a < 0) != (i < k) {
				t.Errorf("%v and %v: %d and %d", x, y, a, b)
			}
		}
	}
	for _, x := range some() {
		for _, y := range some() {
			for _, z := range some() {
				if Compare(x, y) <= 0 && Compare(y, z) <= 0 && Compare(x, z) > 0 {
					t.Errorf("%v, %v, %v", x, y, z)
				}
			}
		}
	}
}

// P3.4: the order after the same was added to both, or both were multiplied by the same positive one.
func TestOrderIsPreserved(t *testing.T) {
	added, multiplied := 0, 0
	all := fractions()
	for i, x := range all {
		for k, y := range all {
			if (i+3*k)%29 != 0 {
				continue
			}
			for _, z := range some() {
				if checkOrder(t, Add, x, y, z) {
					added++
				}
				if z.Num > 0 && checkOrder(t, Mul, x, y, z) {
					multiplied++
				}
			}
		}
	}
	if added < 50000 || multiplied < 50000 {
		t.Errorf("only %d and %d cases fit", added, multiplied)
	}
}

// checkOrder compares the order of x and y with that after an operation on both with z. It returns whether both results fit.
func checkOrder(t *testing.T, f operation, x, y, z api.Ratio) bool {
	t.Helper()
	a, e := f(x, z)
	b, g := f(y, z)
	if e != api.OK || g != api.OK {
		return false
	}
	if before, after := Compare(x, y), Compare(a, b); before != after {
		t.Errorf("%v and %v with %v: %d, then %d", x, y, z, before, after)
	}
	return true
}

// P3.5: a fraction is between its floor and the next integer.
func TestFloor(t *testing.T) {
	for _, c := range []struct {
		x api.Ratio
		n int
	}{
		{frac(0, 1), 0}, {frac(3, 4), 0}, {frac(-3, 4), -1}, {frac(4, 3), 1}, {frac(-4, 3), -2}, {frac(7, 1), 7}, {frac(-7, 1), -7}, {frac(7, 2), 3}, {frac(-7, 2), -4},
		{frac(1, most), 0}, {frac(-1, most), -1}, {frac(most-1, most), 0}, {frac(1-most, most), -1}, {frac(most, most-1), 1}, {frac(-most, most-1), -2}, {frac(most, 1), most}, {frac(-most, 1), -most}, {frac(1-most, 2), -most / 2}, {frac(most-1, 2), most/2 - 1},
	} {
		if n := Floor(c.x); n != c.n {
			t.Errorf("%v: %d instead of %d", c.x, n, c.n)
		}
	}
	for _, x := range fractions() {
		n := Floor(x)
		// n and n + 1 always fit here but for MaxInt, which is its own floor.
		if Compare(frac(n, 1), x) > 0 || n < most && Compare(x, frac(n+1, 1)) >= 0 {
			t.Errorf("%v: %d", x, n)
		}
	}
}

// P3.6: what is formatted is parsed.
func TestParseFormatted(t *testing.T) {
	seen := map[string]api.Ratio{}
	for _, x := range fractions() {
		s := Format(x)
		y, e := Parse(s)
		checkRatio(t, y, e, x, api.OK, s)
		if other, ok := seen[s]; ok && other != x {
			t.Errorf("%v and %v: %q", x, other, s)
		}
		seen[s] = x
	}
}

var textForm = regexp.MustCompile(`^(0|-?[1-9][0-9]*)(/([1-9][0-9]*))?\z`)

// parsed is the fraction whose text is s, read without the program.
func parsed(s string) (api.Ratio, api.Errno) {
	parts := textForm.FindStringSubmatch(s)
	if parts == nil || parts[3] == "1" {
		return none, api.ErrSyntax
	}
	num, _ := new(big.Int).SetString(parts[1], 10)
	den := big.NewInt(1)
	if parts[2] != "" {
		den, _ = den.SetString(parts[3], 10)
	}
	divisor := new(big.Int).GCD(nil, nil, new(big.Int).Abs(num), den)
	if num.CmpAbs(bound) > 0 || den.Cmp(bound) > 0 || divisor.Cmp(big.NewInt(1)) != 0 {
		return none, api.ErrSyntax
	}
	return frac(int(num.Int64()), int(den.Int64())), api.OK
}

func checkParse(t *testing.T, s string) {
	t.Helper()
	x, e := Parse(s)
	want, wantError := parsed(s)
	if len(s) > 100 {
		s = s[:100] + "..."
	}
	checkRatio(t, x, e, want, wantError, "Parse", s)
	if e == api.OK && Format(x) != s {
		t.Errorf("%q: %v, %q", s, x, Format(x))
	}
}

// P3.6: strings that are not the text of a fraction.
func TestParseOthers(t *testing.T) {
	for _, s := range []string{
		"", "/", "-", "-/", "/1", "/2", "-/2", "1/", "-1/", "0/", "//", "1//2", "1/2/", "/1/2", "1/2/3",
		"+", "+1", "+0", "1/+2", "+1/2", "--1", "-+1", "1-", "1/-2", "-1/-2", "1/-", "1-/2", "-0", "-0/1", "0/1", "0/2", "00", "-00", "0/0", "1/0", "-1/0", "1/00",
		"01", "-01", "007", "00/1", "01/2", "1/02", "-1/02", "1/1", "3/1", "-3/1", "2/2", "2/4", "-2/4", "6/3", "10/15", "1152921504606846976/2", "1152921504606846975/3", "1152921504606846976/1152921504606846976",
		" 1", "1 ", "1 /2", "1/ 2", "1\n", "\t1", "1\x00", "\x001", "1/2\n", "a", "1a", "a1", "0x1", "0b1", "0o1", "1e1", "1.0", "1.", ".5", "1_0", "1/1_0", "1,000", "½", "−1", "１", "٣", "\xff", "1\xff", "inf", "NaN", "1:2", "1\\2",
		"1152921504606846977", "-1152921504606846977", "1/1152921504606846977", "-1/1152921504606846977", "1152921504606846977/2", "1152921504606846977/1152921504606846978", "2305843009213693952", "2305843009213693953/2",
		"9223372036854775807", "9223372036854775808", "-9223372036854775807", "-9223372036854775808", "-9223372036854775809", "1/9223372036854775807", "1/9223372036854775808", "18446744073709551615", "18446744073709551616", "18446744073709551617", "18446744073709551619/2", "1/18446744073709551617", "1/18446744073709551618", "99999999999999999999", "340282366920938463463374607431768211457",
	} {
		x, e := Parse(s)
		checkRatio(t, x, e, none, api.ErrSyntax, s)
	}
}

// P3.6: strings that are very long.
func TestParseLong(t *testing.T) {
	const length = 1 << 20
	for _, part := range []string{"0", "1", "9", "-", "/", "+", " ", "_", "1/", "/1", "1/2", "-1", "\x00", "\xff", "é"} {
		long := strings.Repeat(part, length)
		for _, s := range []string{long, "-" + long, "1" + long, "1/" + long, "-1/1" + long, long + "/2", "1" + long + "/3", long + "1", "1/" + long + "3"} {
			x, e := Parse(s)
			if x != none || e != api.ErrSyntax {
				t.Errorf("many %q: %v, error %d", part, x, e)
			}
		}
	}
}

// P3.6: all short strings of the bytes of texts and of some others.
func TestParseShort(t *testing.T) {
	const bytes = "-+/0123469 _"
	l := []string{""}
	for range 5 {
		var longer []string
		for _, s := range l {
			checkParse(t, s)
			for i := range len(bytes) {
				longer = append(longer, s+bytes[i:i+1])
			}
		}
		l = longer
	}
	for _, s := range l {
		checkParse(t, s)
	}
	for i := range 65536 {
		checkParse(t, string([]byte{byte(i), byte(i >> 8)}))
		checkParse(t, "1"+string([]byte{byte(i), byte(i >> 8)}))
	}
}

// P3.6: texts with a byte more, one less, or another one.
func TestParseChanged(t *testing.T) {
	const others = "-+/0129 _\n\x00a"
	for i, x := range fractions() {
		if i%7 != 0 {
			continue
		}
		s := Format(x)
		for at := range len(s) + 1 {
			for _, other := range others {
				checkParse(t, s[:at]+string(other)+s[at:])
				if at < len(s) {
					checkParse(t, s[:at]+string(other)+s[at+1:])
				}
			}
			checkParse(t, s[:at])
			checkParse(t, s[at:])
			if at < len(s) {
				checkParse(t, s[:at]+s[at+1:])
			}
		}
	}
}

// P3.6: fractions of any two integers written as a text, most of which are none.
func TestParsePairs(t *testing.T) {
	for _, num := range integers() {
		checkParse(t, strconv.Itoa(num))
		for _, den := range integers() {
			checkParse(t, strconv.Itoa(num)+"/"+strconv.Itoa(den))
		}
	}
}

// P3.1: for arbitrary numbers, the results are those of the standard library.
func FuzzOperations(f *testing.F) {
	f.Add(0, 0, 0, 0)
	f.Add(6, -8, 1, 10)
	f.Add(most-1, most, 1, most)
	f.Add(math.MinInt, math.MinInt, math.MaxInt, 7)
	f.Fuzz(func(t *testing.T, a, b, c, d int) {
		checkMake(t, a, b)
		x, e := Make(a, b)
		y, g := Make(c, d)
		if e != api.OK || g != api.OK {
			return
		}
		checkOperations(t, x, y)
		if n, want := Compare(x, y), exact(x).Cmp(exact(y)); n != want {
			t.Errorf("%v and %v: %d instead of %d", x, y, n, want)
		}
		if n, want := Floor(x), new(big.Int).Div(big.NewInt(int64(x.Num)), big.NewInt(int64(x.Den))); int64(n) != want.Int64() {
			t.Errorf("%v: %d instead of %v", x, n, want)
		}
		if s := Format(x); s != exact(x).RatString() {
			t.Errorf("%v: %q", x, s)
		}
	})
}

// P3.6: arbitrary strings.
func FuzzParse(f *testing.F) {
	for _, s := range []string{"", "0", "-3/4", "3/1", "1/1152921504606846976", "18446744073709551617"} {
		f.Add(s)
	}
	f.Fuzz(checkParse)
}

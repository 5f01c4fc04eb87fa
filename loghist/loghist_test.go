package loghist

import (
	"math"
	"math/rand"
	"slices"
	"testing"

	"lookout/api"
)

// none is the result with an error, and also the valid histogram of no values with the precision 0.
var none = api.Hist{}

func frac(num, den int) api.Ratio {
	return api.Ratio{Num: num, Den: den}
}

// of returns the histogram of some values.
func of(p int, l ...int) api.Hist {
	return valuesOf(l...).histogram(p)
}

// buckets returns the buckets with some indices and numbers of values.
func buckets(l ...int) []api.HistBucket {
	var b []api.HistBucket
	for pair := range slices.Chunk(l, 2) {
		b = append(b, api.HistBucket{Index: pair[0], Count: pair[1]})
	}
	return b
}

// empty returns the histogram without values, whose precision may not be valid.
func empty(precision int) api.Hist {
	return api.Hist{Precision: precision}
}

// hist returns the histogram with these fields, which may not be valid.
func hist(precision, count, sum, least, most int, b []api.HistBucket) api.Hist {
	return api.Hist{Precision: precision, Count: count, Sum: sum, Min: least, Max: most, Buckets: b}
}

// leasts returns the least values of n successive buckets with the precision 8, once each.
func leasts(n, first int) values {
	v := values{}
	for i := range n {
		v[bucketTables[8][first+i][0]] = 1
	}
	return v
}

// short returns a histogram for a message.
func short(h api.Hist) api.Hist {
	h.Buckets = h.Buckets[:min(len(h.Buckets), 20)]
	return h
}

// integers returns numbers in and out of the ranges of values and precisions.
func integers() []int {
	return []int{math.MinInt, -mostValue, -1, 0, 1, 2, 5, 8, 9, 100, 511, 512, mostCount, mostCount + 1, mostValue - 1, mostValue, mostValue + 1, math.MaxInt}
}

// fractions returns fractions, also those that are not valid, or not from 0 to 1, among them all at which the rank of some values changes, if these are not too many.
func fractions(count int) []api.Ratio {
	l := []api.Ratio{frac(0, 1), frac(1, 1), frac(1, 2), frac(1, 3), frac(2, 3), frac(999, 1000), frac(1, 1<<60), frac(1<<60-1, 1<<60), frac(1, 1<<60-1), frac(1<<59-1, 1<<59), frac(-1, 1), frac(-1, 1<<60), frac(4, 3), frac(2, 1), frac(1<<60, 1<<60-1), frac(1<<60, 1), frac(0, 0), frac(1, 0), frac(2, 4), frac(0, 2), frac(1, -2), frac(-1, -2), frac(1, 1<<60+1), frac(math.MinInt, math.MinInt), frac(math.MaxInt, 1), frac(3, math.MaxInt)}
	for i := range min(count, 12) {
		l = append(l, frac(i+1, count), frac(2*i+1, 2*count), frac(3*i+4, 3*count))
	}
	return l
}

func checkHist(t *testing.T, what string, h api.Hist, e api.Errno, want api.Hist, wantError api.Errno, arguments ...any) {
	t.Helper()
	if !equal(h, want) || e != wantError {
		t.Errorf("%s of %v: %v, error %d instead of %v, error %d", what, arguments, short(h), e, short(want), wantError)
	}
}

func checkQuantile(t *testing.T, h api.Hist, phi api.Ratio) api.Errno {
	t.Helper()
	low, high, e := Quantile(h, phi)
	if wantLow, wantHigh, wantError := wantQuantile(h, phi); low != wantLow || high != wantHigh || e != wantError {
		t.Errorf("quantile %v of %v: from %d to %d, error %d instead of from %d to %d, error %d", phi, short(h), low, high, e, wantLow, wantHigh, wantError)
	}
	return e
}

func checkRank(t *testing.T, h api.Hist, x int) {
	t.Helper()
	certain, possible, e := Rank(h, x)
	if wantCertain, wantPossible, wantError := wantRank(h, x); certain != wantCertain || possible != wantPossible || e != wantError {
		t.Errorf("rank of %d in %v: from %d to %d, error %d instead of from %d to %d, error %d", x, short(h), certain, possible, e, wantCertain, wantPossible, wantError)
	}
}

func checkReduce(t *testing.T, h api.Hist, precision int) api.Errno {
	t.Helper()
	r, e := Reduce(h, precision)
	want, wantError := wantReduce(h, precision)
	checkHist(t, "Reduce", r, e, want, wantError, short(h), precision)
	return e
}

func checkAdd(t *testing.T, h api.Hist, value, n int) api.Errno {
	t.Helper()
	x, e := Add(h, value, n)
	want, wantError := wantAdd(h, value, n)
	checkHist(t, "Add", x, e, want, wantError, short(h), value, n)
	return e
}

func checkMerge(t *testing.T, a, b api.Hist) api.Errno {
	t.Helper()
	m, e := Merge(a, b)
	want, wantError := wantMerge(a, b)
	checkHist(t, "Merge", m, e, want, wantError, short(a), short(b))
	return e
}

// checkAlone checks the functions of a histogram alone.
func checkAlone(t *testing.T, h api.Hist) api.Errno {
	t.Helper()
	e := Check(h)
	if want := wantCheck(h); e != want {
		t.Errorf("Check of %v: error %d instead of %d", short(h), e, want)
	}
	for _, phi := range fractions(h.Count) {
		checkQuantile(t, h, phi)
	}
	for _, x := range []int{h.Min, h.Max, h.Count} {
		for _, distance := range []int{-1, 0, 1} {
			checkRank(t, h, x+distance)
		}
	}
	for _, n := range integers() {
		checkRank(t, h, n)
		checkReduce(t, h, n)
	}
	for p := range 10 {
		checkReduce(t, h, p)
	}
	return e
}

// P12.1, P12.2: which values are in which buckets.
func TestBuckets(t *testing.T) {
	for _, c := range []struct{ precision, index, low, high int }{
		{0, 0, 0, 0}, {0, 1, 1, 1}, {0, 2, 2, 3}, {0, 3, 4, 7}, {0, 40, mostValue / 2, mostValue - 1}, {0, 41, mostValue, mostValue},
		{1, 0, 0, 0}, {1, 3, 3, 3}, {1, 4, 4, 5}, {1, 5, 6, 7}, {1, 6, 8, 11}, {1, 79, 3 * mostValue / 4, mostValue - 1}, {1, 80, mostValue, mostValue},
		{2, 3, 3, 3}, {2, 4, 4, 4}, {2, 7, 7, 7}, {2, 8, 8, 9}, {2, 11, 14, 15}, {2, 12, 16, 19}, {2, 22, 96, 111}, {2, 23, 112, 127}, {2, 24, 128, 159},
		{8, 255, 255, 255}, {8, 256, 256, 256}, {8, 511, 511, 511}, {8, 512, 512, 513}, {8, 767, 1022, 1023}, {8, 768, 1024, 1027}, {8, 8447, mostValue - 1<<31, mostValue - 1}, {8, 8448, mostValue, mostValue},
	} {
		if low, high, e := Bounds(c.precision, c.index); low != c.low || high != c.high || e != api.OK {
			t.Errorf("bucket %d, precision %d: from %d to %d, error %d", c.index, c.precision, low, high, e)
		}
		for _, v := range []int{c.low, (c.low + c.high) / 2, c.high} {
			if i, e := Index(c.precision, v); i != c.index || e != api.OK {
				t.Errorf("value %d, precision %d: bucket %d, error %d", v, c.precision, i, e)
			}
		}
	}
	for p, n := range []int{41, 80, 156, 304, 592, 1152, 2240, 4352, 8448} {
		if i, e := Index(p, mostValue); i != n || e != api.OK {
			t.Errorf("precision %d: the last bucket is %d, error %d", p, i, e)
		}
		for _, i := range []int{math.MinInt, -mostValue, -1, n + 1, n + 2, 2 * n, mostValue, math.MaxInt} {
			if low, high, e := Bounds(p, i); low != 0 || high != 0 || e != api.ErrRange {
				t.Errorf("bucket %d, precision %d: from %d to %d, error %d", i, p, low, high, e)
			}
		}
		for _, v := range []int{math.MinInt, -mostValue, -1, mostValue + 1, 2 * mostValue, math.MaxInt} {
			if i, e := Index(p, v); i != 0 || e != api.ErrRange {
				t.Errorf("value %d, precision %d: bucket %d, error %d", v, p, i, e)
			}
		}
	}
	for _, p := range []int{math.MinInt, -64, -1, 9, 40, 64, math.MaxInt} {
		for _, n := range integers() {
			if low, high, e := Bounds(p, n); low != 0 || high != 0 || e != api.ErrRange {
				t.Errorf("bucket %d, precision %d: from %d to %d, error %d", n, p, low, high, e)
			}
			if i, e := Index(p, n); i != 0 || e != api.ErrRange {
				t.Errorf("value %d, precision %d: bucket %d, error %d", n, p, i, e)
			}
		}
	}
}

// P12.1
func TestNew(t *testing.T) {
	for p := range 9 {
		h, e := New(p)
		checkHist(t, "New", h, e, empty(p), api.OK, p)
	}
	for _, p := range []int{math.MinInt, -1, 9, 10, math.MaxInt} {
		h, e := New(p)
		checkHist(t, "New", h, e, none, api.ErrRange, p)
	}
}

// P12.1: what is a valid histogram, and which error comes first.
func TestCheck(t *testing.T) {
	many := slices.Repeat(buckets(1, 1), 501)
	for i, c := range []struct {
		h api.Hist
		e api.Errno
	}{
		{none, api.OK}, {empty(8), api.OK}, {api.Hist{Buckets: buckets()}, api.OK}, {empty(9), api.ErrRange}, {empty(-1), api.ErrRange}, {empty(math.MinInt), api.ErrRange}, {empty(math.MaxInt), api.ErrRange},
		{api.Hist{Count: 1}, api.ErrMismatch}, {api.Hist{Sum: 1}, api.ErrMismatch}, {api.Hist{Sum: -1}, api.ErrMismatch}, {api.Hist{Min: 1, Max: 1}, api.ErrMismatch}, {api.Hist{Min: -1}, api.ErrMismatch}, {api.Hist{Max: 1}, api.ErrMismatch}, {api.Hist{Max: -1}, api.ErrMismatch}, {api.Hist{Count: -1}, api.ErrMismatch}, {api.Hist{Min: math.MinInt, Max: math.MaxInt, Sum: math.MinInt, Count: math.MaxInt}, api.ErrMismatch},
		{hist(0, 1, 0, 0, 0, buckets(0, 1)), api.OK}, {hist(0, 2, 0, 0, 0, buckets(0, 2)), api.OK}, {hist(0, 1, mostValue, mostValue, mostValue, buckets(41, 1)), api.OK}, {hist(8, 1, mostValue, mostValue, mostValue, buckets(8448, 1)), api.OK},
		// the order of errors
		{hist(9, 1, 0, 0, 0, many), api.ErrRange}, {hist(0, 501, 501, 1, 1, many), api.ErrLimit}, {hist(0, 500, 500, 1, 1, many[1:]), api.ErrOrder},
		{hist(0, 1, 0, 0, 0, buckets(-1, 1)), api.ErrRange}, {hist(0, 1, 0, 0, 0, buckets(42, 1)), api.ErrRange}, {hist(8, 1, 0, 0, 0, buckets(8449, 1)), api.ErrRange}, {hist(0, 1, 0, 0, 0, buckets(math.MinInt, 1)), api.ErrRange}, {hist(0, 1, 0, 0, 0, buckets(math.MaxInt, 1)), api.ErrRange},
		{hist(0, 0, 0, 0, 0, buckets(0, 0)), api.ErrRange}, {hist(0, -1, 0, 0, 0, buckets(0, -1)), api.ErrRange}, {hist(0, 1, 0, 0, 0, buckets(0, mostCount+1)), api.ErrRange}, {hist(0, 1, 0, 0, 0, buckets(0, math.MinInt)), api.ErrRange}, {hist(0, 1, 0, 0, 0, buckets(0, math.MaxInt)), api.ErrRange},
		{hist(0, 2, 2, 1, 1, buckets(1, 1, 1, 1)), api.ErrOrder}, {hist(0, 2, 1, 0, 1, buckets(1, 1, 0, 1)), api.ErrOrder}, {hist(0, 2, 2, 1, 1, buckets(1, 1, 1, 0)), api.ErrRange}, {hist(0, 2, 2, 1, 1, buckets(1, 1, -1, 1)), api.ErrRange}, {hist(0, 3, 3, 1, 1, buckets(1, 1, 1, 1, 2, 0)), api.ErrOrder}, {hist(0, 3, 3, 1, 1, buckets(1, 1, 2, 0, 1, 1)), api.ErrRange}, {hist(0, 3, 3, 0, 1, buckets(2, 1, 0, 1, 1, 1)), api.ErrOrder},
		{hist(0, 2, 1, 0, 1, buckets(0, mostCount, 1, 1)), api.ErrLimit}, {hist(0, 2, 1, 0, 1, buckets(0, mostCount, 0, 1)), api.ErrOrder}, {hist(0, 2, 1, 0, 1, buckets(0, mostCount, 1, 0)), api.ErrRange}, {hist(0, mostCount+1, 1, 0, 1, buckets(0, mostCount, 1, 1)), api.ErrLimit}, {hist(0, mostCount, 1, 0, 1, buckets(0, mostCount-1, 1, 1)), api.OK}, {hist(0, mostCount, 0, 0, 0, buckets(0, mostCount)), api.OK},
		// the sums of two values from 8 to 15, and of more
		{hist(0, 2, 20, 9, 11, buckets(4, 2)), api.OK}, {hist(0, 2, 19, 9, 11, buckets(4, 2)), api.ErrMismatch}, {hist(0, 2, 21, 9, 11, buckets(4, 2)), api.ErrMismatch}, {hist(0, 3, 29, 9, 11, buckets(4, 3)), api.OK}, {hist(0, 3, 31, 9, 11, buckets(4, 3)), api.OK}, {hist(0, 3, 28, 9, 11, buckets(4, 3)), api.ErrMismatch}, {hist(0, 3, 32, 9, 11, buckets(4, 3)), api.ErrMismatch},
		{hist(0, 1, 9, 9, 9, buckets(4, 1)), api.OK}, {hist(0, 1, 9, 9, 10, buckets(4, 1)), api.ErrMismatch}, {hist(0, 1, 10, 9, 10, buckets(4, 1)), api.ErrMismatch}, {hist(0, 1, 10, 10, 9, buckets(4, 1)), api.ErrMismatch}, {hist(0, 2, 19, 10, 9, buckets(4, 2)), api.ErrMismatch}, {hist(0, 1, 10, 9, 9, buckets(4, 1)), api.ErrMismatch},
		{hist(0, 2, 22, 7, 15, buckets(4, 2)), api.ErrMismatch}, {hist(0, 2, 24, 8, 16, buckets(4, 2)), api.ErrMismatch}, {hist(0, 2, 23, 8, 15, buckets(4, 2)), api.OK}, {hist(0, 2, 16, 8, 8, buckets(4, 2)), api.OK},
		// several buckets
		{hist(0, 4, 2+3+8+9, 2, 9, buckets(2, 2, 4, 2)), api.OK}, {hist(0, 4, 2+2+8+9, 2, 9, buckets(2, 2, 4, 2)), api.OK}, {hist(0, 4, 20, 2, 9, buckets(2, 2, 4, 2)), api.ErrMismatch}, {hist(0, 4, 2+3+9+9, 2, 9, buckets(2, 2, 4, 2)), api.OK}, {hist(0, 4, 24, 2, 9, buckets(2, 2, 4, 2)), api.ErrMismatch}, {hist(0, 3, 23, 2, 9, buckets(2, 2, 4, 2)), api.ErrMismatch}, {hist(0, 5, 23, 2, 9, buckets(2, 2, 4, 2)), api.ErrMismatch}, {hist(0, 4, 24, 3, 9, buckets(2, 2, 4, 2)), api.OK},
		{hist(0, 3, 3+4+9, 3, 9, buckets(2, 1, 3, 1, 4, 1)), api.OK}, {hist(0, 3, 3+7+9, 3, 9, buckets(2, 1, 3, 1, 4, 1)), api.OK}, {hist(0, 3, 15, 3, 9, buckets(2, 1, 3, 1, 4, 1)), api.ErrMismatch}, {hist(0, 3, 20, 3, 9, buckets(2, 1, 3, 1, 4, 1)), api.ErrMismatch}, {hist(0, 3, 16, 1, 9, buckets(2, 1, 3, 1, 4, 1)), api.ErrMismatch}, {hist(0, 3, 16, 4, 9, buckets(2, 1, 3, 1, 4, 1)), api.ErrMismatch}, {hist(0, 3, 16, 3, 7, buckets(2, 1, 3, 1, 4, 1)), api.ErrMismatch}, {hist(0, 3, 16, 3, 16, buckets(2, 1, 3, 1, 4, 1)), api.ErrMismatch},
		// numbers that no values have
		{hist(0, 1, 0, -1, 0, buckets(0, 1)), api.ErrMismatch}, {hist(0, 1, -1, -1, -1, buckets(0, 1)), api.ErrMismatch}, {hist(0, 2, mostValue+1, 0, mostValue+1, buckets(0, 1, 41, 1)), api.ErrMismatch}, {hist(0, 2, math.MaxInt, 0, math.MaxInt, buckets(0, 1, 41, 1)), api.ErrMismatch}, {hist(0, 2, math.MinInt, math.MinInt, 0, buckets(0, 2)), api.ErrMismatch}, {hist(0, 2, math.MinInt, 0, 0, buckets(0, 2)), api.ErrMismatch}, {hist(0, 2, math.MaxInt, 0, 0, buckets(0, 2)), api.ErrMismatch}, {hist(0, math.MaxInt, 0, 0, 0, buckets(0, 2)), api.ErrMismatch}, {hist(0, math.MinInt, 0, 0, 0, buckets(0, 2)), api.ErrMismatch},
		// the greatest sums
		{hist(0, mostCount, mostCount*mostValue, mostValue, mostValue, buckets(41, mostCount)), api.OK}, {hist(0, mostCount, mostCount*mostValue-1, mostValue, mostValue, buckets(41, mostCount)), api.ErrMismatch}, {hist(0, mostCount, mostCount*mostValue+1, mostValue, mostValue, buckets(41, mostCount)), api.ErrMismatch},
	} {
		if e := Check(c.h); e != c.e {
			t.Errorf("case %d, %v: error %d instead of %d", i, short(c.h), e, c.e)
		}
		checkAlone(t, c.h)
		checkAdd(t, c.h, 1, 1)
		checkMerge(t, c.h, none)
		checkMerge(t, none, c.h)
	}
}

// A small histogram has no index above 7, so that it can be the key of a map.
type small struct {
	count, sum, least, most int
	counts                  [8]int
}

// smallOnes adds to a set the histograms of some values and of at most n more ones, which are not less than those, nor greater than 15.
func smallOnes(p int, l []int, from, n int, set map[small]bool) {
	h := of(p, l...)
	key := small{count: h.Count, sum: h.Sum, least: h.Min, most: h.Max}
	for _, b := range h.Buckets {
		key.counts[b.Index] = b.Count
	}
	set[key] = true
	if n == 0 {
		return
	}
	for v := from; v < 16; v++ {
		smallOnes(p, append(l, v), v, n-1, set)
	}
}

// P12.1: Check and the test's own version of it accept exactly the histograms of all lists of a few small values.
func TestSmallHistograms(t *testing.T) {
	for p, n := range []int{4, 3} {
		valid := map[small]bool{}
		smallOnes(p, nil, 0, n, valid)
		known := map[[8]int]bool{}
		for key := range valid {
			known[key.counts] = true
		}
		count := 0
		for counts := range known {
			h := empty(p)
			for i, c := range counts {
				if c > 0 {
					h.Buckets = append(h.Buckets, api.HistBucket{Index: i, Count: c})
					h.Count += c
				}
			}
			count += checkSmall(t, h, counts, valid)
		}
		if count != len(valid) {
			t.Errorf("precision %d: %d valid histograms of %d", p, count, len(valid))
		}
	}
}

// checkSmall checks all small Sums, Mins and Maxs for the buckets of h. It returns how many of them fit.
func checkSmall(t *testing.T, h api.Hist, counts [8]int, valid map[small]bool) int {
	t.Helper()
	fit := 0
	for h.Min = -1; h.Min <= 16; h.Min++ {
		for h.Max = -1; h.Max <= 16; h.Max++ {
			for h.Sum = -1; h.Sum <= 15*h.Count+1; h.Sum++ {
				want := api.ErrMismatch
				if valid[small{h.Count, h.Sum, h.Min, h.Max, counts}] {
					want = api.OK
					fit++
				}
				if e := Check(h); e != want {
					t.Errorf("%v: error %d instead of %d", h, e, want)
				}
				if h.Sum%5 == 0 && wantCheck(h) != want {
					t.Errorf("%v: the test expects error %d instead of %d", h, wantCheck(h), want)
				}
			}
		}
	}
	return fit
}

// P12.1
func TestAdd(t *testing.T) {
	h := of(2, 1, 100, 105)
	full := values{3: mostCount - 1, 9: 1}.histogram(1)
	wide, from := leasts(500, 4000).histogram(8), bucketTables[8][4000][0]
	for _, c := range []struct {
		h        api.Hist
		value, n int
		want     api.Hist
		e        api.Errno
	}{
		{empty(2), 7, 1, hist(2, 1, 7, 7, 7, buckets(7, 1)), api.OK}, {none, 0, 1, hist(0, 1, 0, 0, 0, buckets(0, 1)), api.OK}, {none, 3, 4, hist(0, 4, 12, 3, 3, buckets(2, 4)), api.OK}, {none, mostValue, mostCount, hist(0, mostCount, 1<<60, mostValue, mostValue, buckets(41, mostCount)), api.OK},
		{h, 101, 1, hist(2, 4, 307, 1, 105, buckets(1, 1, 22, 3)), api.OK}, {h, 0, 2, hist(2, 5, 206, 0, 105, buckets(0, 2, 1, 1, 22, 2)), api.OK}, {h, 50, 1, hist(2, 4, 256, 1, 105, buckets(1, 1, 18, 1, 22, 2)), api.OK}, {h, 111, 3, hist(2, 6, 539, 1, 111, buckets(1, 1, 22, 5)), api.OK}, {h, mostValue, 1, hist(2, 4, 206+mostValue, 1, mostValue, buckets(1, 1, 22, 2, 156, 1)), api.OK},
		{h, 7, 0, h, api.OK}, {h, 0, 0, h, api.OK}, {h, mostValue, 0, h, api.OK}, {empty(3), 7, 0, empty(3), api.OK}, {full, 7, 0, full, api.OK}, {wide, 7, 0, wide, api.OK},
		{h, -1, 1, none, api.ErrRange}, {h, mostValue + 1, 1, none, api.ErrRange}, {h, -1, 0, none, api.ErrRange}, {h, mostValue + 1, 0, none, api.ErrRange}, {h, math.MinInt, math.MinInt, none, api.ErrRange}, {h, math.MaxInt, math.MaxInt, none, api.ErrRange}, {h, 1, -1, none, api.ErrRange}, {h, 1, math.MinInt, none, api.ErrRange}, {full, -1, 1, none, api.ErrRange}, {full, mostValue + 1, 1, none, api.ErrRange}, {full, 3, -1, none, api.ErrRange}, {wide, -1, 1, none, api.ErrRange},
		{h, 1, mostCount - 3, values{1: mostCount - 2, 100: 1, 105: 1}.histogram(2), api.OK}, {h, 1, mostCount - 2, none, api.ErrLimit}, {h, 1, mostCount, none, api.ErrLimit}, {h, 1, mostCount + 1, none, api.ErrLimit}, {none, 1, mostCount + 1, none, api.ErrLimit}, {h, 0, math.MaxInt, none, api.ErrLimit}, {h, mostValue, math.MaxInt, none, api.ErrLimit}, {h, mostValue, 1 << 24, none, api.ErrLimit}, {full, 3, 1, none, api.ErrLimit}, {full, 3, math.MaxInt, none, api.ErrLimit},
		{wide, from, 5, leasts(500, 4000).and(values{from: 5}).histogram(8), api.OK}, {wide, from - 1, 1, none, api.ErrLimit}, {wide, mostValue, 1, none, api.ErrLimit}, {wide, 7, 1, none, api.ErrLimit}, {leasts(499, 4000).histogram(8), 7, 1, leasts(499, 4000).and(values{7: 1}).histogram(8), api.OK},
		{api.Hist{Sum: 1}, 1, 1, none, api.ErrArgument}, {api.Hist{Sum: 1}, 1, 0, none, api.ErrArgument}, {api.Hist{Sum: 1}, -1, -1, none, api.ErrArgument}, {empty(9), 1, 1, none, api.ErrArgument}, {empty(-1), 1, mostCount + 1, none, api.ErrArgument},
	} {
		x, e := Add(c.h, c.value, c.n)
		checkHist(t, "Add", x, e, c.want, c.e, short(c.h), c.value, c.n)
		checkAdd(t, c.h, c.value, c.n)
	}
}

// P12.1
func TestReduce(t *testing.T) {
	h := of(2, 1, 100, 105)
	for _, c := range []struct {
		h         api.Hist
		precision int
		want      api.Hist
		e         api.Errno
	}{
		{h, 2, h, api.OK}, {h, 1, hist(1, 3, 206, 1, 105, buckets(1, 1, 13, 2)), api.OK}, {h, 0, hist(0, 3, 206, 1, 105, buckets(1, 1, 7, 2)), api.OK}, {empty(8), 3, empty(3), api.OK}, {of(8, mostValue), 0, of(0, mostValue), api.OK},
		{of(1, 4, 6, 8, 12, 15), 0, hist(0, 5, 45, 4, 15, buckets(3, 2, 4, 3)), api.OK}, {of(2, 0, 1, 2, 3, 4, 5, 6, 7), 0, hist(0, 8, 28, 0, 7, buckets(0, 1, 1, 1, 2, 2, 3, 4)), api.OK}, {values{5: mostCount}.histogram(2), 0, values{5: mostCount}.histogram(0), api.OK}, {leasts(500, 0).histogram(8), 7, leasts(500, 0).histogram(7), api.OK}, {leasts(500, 3000).histogram(8), 8, leasts(500, 3000).histogram(8), api.OK},
		{h, 3, none, api.ErrRange}, {h, 8, none, api.ErrRange}, {h, 9, none, api.ErrRange}, {h, -1, none, api.ErrRange}, {h, math.MinInt, none, api.ErrRange}, {h, math.MaxInt, none, api.ErrRange}, {none, 1, none, api.ErrRange},
		{api.Hist{Sum: 1}, 0, none, api.ErrArgument}, {api.Hist{Sum: 1}, 1, none, api.ErrArgument}, {empty(9), 8, none, api.ErrArgument}, {empty(9), 10, none, api.ErrArgument}, {empty(-1), -1, none, api.ErrArgument},
	} {
		r, e := Reduce(c.h, c.precision)
		checkHist(t, "Reduce", r, e, c.want, c.e, short(c.h), c.precision)
		checkReduce(t, c.h, c.precision)
	}
}

// P12.1
func TestMerge(t *testing.T) {
	h, full := of(2, 1, 100, 105), values{5: mostCount}.histogram(2)
	low, high := leasts(250, 0), leasts(250, 250)
	for _, c := range []struct {
		a, b, want api.Hist
		e          api.Errno
	}{
		{h, of(2, 0, 101), hist(2, 5, 307, 0, 105, buckets(0, 1, 1, 1, 22, 3)), api.OK}, {h, of(1, 96, 0), hist(1, 5, 302, 0, 105, buckets(0, 1, 1, 1, 13, 3)), api.OK}, {h, of(8, 1000), of(2, 1, 100, 105, 1000), api.OK}, {h, h, of(2, 1, 1, 100, 100, 105, 105), api.OK},
		{h, empty(2), h, api.OK}, {h, empty(8), h, api.OK}, {h, none, of(0, 1, 100, 105), api.OK}, {empty(3), empty(5), empty(3), api.OK}, {of(0, 5), of(0, 0), hist(0, 2, 5, 0, 5, buckets(0, 1, 3, 1)), api.OK},
		{full, empty(2), full, api.OK}, {full, of(2, 5), none, api.ErrLimit}, {full, full, none, api.ErrLimit}, {values{5: mostCount - 1}.histogram(2), of(2, 5), full, api.OK}, {values{mostValue: mostCount}.histogram(2), values{mostValue: mostCount}.histogram(2), none, api.ErrLimit},
		{low.histogram(8), high.histogram(8), low.and(high).histogram(8), api.OK}, {low.and(high).histogram(8), of(8, 500), none, api.ErrLimit}, {low.and(high).histogram(8), of(8, 499), low.and(high).and(values{499: 1}).histogram(8), api.OK}, {low.and(high).histogram(8), of(7, 500), low.and(high).and(values{500: 1}).histogram(7), api.OK}, {leasts(500, 3000).histogram(8), leasts(500, 4000).histogram(8), none, api.ErrLimit}, {leasts(500, 3000).histogram(8), none, leasts(500, 3000).histogram(0), api.OK}, {leasts(300, 3000).histogram(8), leasts(300, 3200).histogram(8), leasts(300, 3000).and(leasts(300, 3200)).histogram(8), api.OK},
		{api.Hist{Sum: 1}, h, none, api.ErrArgument}, {h, api.Hist{Sum: 1}, none, api.ErrArgument}, {empty(9), h, none, api.ErrArgument}, {h, empty(-1), none, api.ErrArgument}, {api.Hist{Count: math.MaxInt}, full, none, api.ErrArgument}, {full, hist(0, mostCount, 0, 0, 1, buckets(0, mostCount)), none, api.ErrArgument},
	} {
		m, e := Merge(c.a, c.b)
		checkHist(t, "Merge", m, e, c.want, c.e, short(c.a), short(c.b))
		m, e = Merge(c.b, c.a)
		checkHist(t, "Merge", m, e, c.want, c.e, short(c.b), short(c.a))
		checkMerge(t, c.a, c.b)
	}
}

// P12.1, P12.3
func TestQuantile(t *testing.T) {
	h := of(2, 1, 100, 105)
	ten := of(0, 0, 1, 2, 3, 4, 5, 6, 7, 8, 9)
	bad := api.Hist{Sum: 1}
	for _, c := range []struct {
		h         api.Hist
		phi       api.Ratio
		low, high int
		e         api.Errno
	}{
		{h, frac(0, 1), 1, 1, api.OK}, {h, frac(1, 3), 1, 1, api.OK}, {h, frac(1, 1<<58), 1, 1, api.OK}, {h, frac(1, 2), 96, 105, api.OK}, {h, frac(334, 1000), 0, 0, api.ErrArgument}, {h, frac(167, 500), 96, 105, api.OK}, {h, frac(2, 3), 96, 105, api.OK}, {h, frac(1, 1), 96, 105, api.OK}, {of(0, 9, 10, 11), frac(1, 2), 9, 11, api.OK}, {of(0, 9, 20), frac(1, 2), 9, 15, api.OK}, {of(0, 9, 20), frac(1, 1), 16, 20, api.OK}, {of(0, 3, 9, 20), frac(1, 2), 8, 15, api.OK}, {of(0, mostValue), frac(1, 2), mostValue, mostValue, api.OK},
		{ten, frac(0, 1), 0, 0, api.OK}, {ten, frac(1, 10), 0, 0, api.OK}, {ten, frac(1, 5), 1, 1, api.OK}, {ten, frac(3, 10), 2, 3, api.OK}, {ten, frac(2, 5), 2, 3, api.OK}, {ten, frac(41, 100), 4, 7, api.OK}, {ten, frac(4, 5), 4, 7, api.OK}, {ten, frac(801, 1000), 8, 9, api.OK}, {ten, frac(9, 10), 8, 9, api.OK},
		{h, frac(4, 3), 0, 0, api.ErrRange}, {h, frac(-1, 3), 0, 0, api.ErrRange}, {h, frac(1<<60, 1), 0, 0, api.ErrRange}, {h, frac(1<<60, 1<<60-1), 0, 0, api.ErrRange}, {h, frac(-1, 1<<60), 0, 0, api.ErrRange}, {h, frac(2, 4), 0, 0, api.ErrArgument}, {h, frac(4, 2), 0, 0, api.ErrArgument}, {h, frac(1, 0), 0, 0, api.ErrArgument}, {h, frac(0, 0), 0, 0, api.ErrArgument}, {h, frac(-1, -2), 0, 0, api.ErrArgument}, {h, frac(1, 1<<60+1), 0, 0, api.ErrArgument},
		{bad, frac(1, 2), 0, 0, api.ErrArgument}, {bad, frac(4, 3), 0, 0, api.ErrArgument}, {empty(9), frac(1, 2), 0, 0, api.ErrArgument}, {none, frac(2, 4), 0, 0, api.ErrArgument}, {none, frac(4, 3), 0, 0, api.ErrRange}, {none, frac(-4, 3), 0, 0, api.ErrRange}, {none, frac(1, 2), 0, 0, api.ErrNothing}, {empty(8), frac(0, 1), 0, 0, api.ErrNothing}, {none, frac(1<<60-1, 1<<60), 0, 0, api.ErrNothing},
		{h, frac(1<<60-1, 1<<60), 0, 0, api.ErrOverflow}, {h, frac(1<<60-1, 1<<59), 0, 0, api.ErrRange}, {of(0, 1, 9), frac(1<<60-1, 1<<60), 8, 9, api.OK}, {h, frac(1, 1<<60), 1, 1, api.OK}, {h, frac(1<<59+1, 1<<60), 0, 0, api.ErrOverflow},
	} {
		low, high, e := Quantile(c.h, c.phi)
		if low != c.low || high != c.high || e != c.e {
			t.Errorf("quantile %v of %v: from %d to %d, error %d instead of from %d to %d, error %d", c.phi, c.h, low, high, e, c.low, c.high, c.e)
		}
		checkQuantile(t, c.h, c.phi)
	}
}

// P12.1, P12.3
func TestRank(t *testing.T) {
	h, other := of(2, 1, 100, 105), of(0, 9, 10, 20)
	for _, c := range []struct {
		h                    api.Hist
		x, certain, possible int
		e                    api.Errno
	}{
		{h, 0, 0, 0, api.OK}, {h, 1, 1, 1, api.OK}, {h, 95, 1, 1, api.OK}, {h, 96, 1, 3, api.OK}, {h, 104, 1, 3, api.OK}, {h, 105, 3, 3, api.OK}, {h, -7, 0, 0, api.OK}, {h, math.MinInt, 0, 0, api.OK}, {h, math.MaxInt, 3, 3, api.OK}, {h, mostValue + 1, 3, 3, api.OK},
		{other, 8, 0, 0, api.OK}, {other, 9, 0, 2, api.OK}, {other, 14, 0, 2, api.OK}, {other, 15, 2, 2, api.OK}, {other, 16, 2, 3, api.OK}, {other, 19, 2, 3, api.OK}, {other, 20, 3, 3, api.OK}, {of(0, 9, 10, 14), 8, 0, 0, api.OK}, {of(0, 9, 10, 14), 13, 0, 3, api.OK}, {of(0, 9, 10, 14), 14, 3, 3, api.OK}, {of(0, 0, 0), -1, 0, 0, api.OK}, {of(0, 0, 0), 0, 2, 2, api.OK},
		{none, 0, 0, 0, api.OK}, {none, math.MaxInt, 0, 0, api.OK}, {api.Hist{Sum: 1}, 5, 0, 0, api.ErrArgument}, {hist(0, 2, 9, 0, 9, buckets(0, 1)), 5, 0, 0, api.ErrArgument}, {empty(9), 5, 0, 0, api.ErrArgument},
	} {
		certain, possible, e := Rank(c.h, c.x)
		if certain != c.certain || possible != c.possible || e != c.e {
			t.Errorf("rank of %d in %v: from %d to %d, error %d instead of from %d to %d, error %d", c.x, c.h, certain, possible, e, c.certain, c.possible, c.e)
		}
		checkRank(t, c.h, c.x)
	}
}

// A source gives the numbers of a string of bytes, and then zeros.
type source struct {
	rest []byte
}

func (s *source) next() int {
	if len(s.rest) == 0 {
		return 0
	}
	b := s.rest[0]
	s.rest = s.rest[1:]
	return int(b)
}

// histOf returns a histogram that arbitrary bytes stand for; most of them are valid.
func histOf(b []byte) api.Hist {
	s := &source{b}
	kind, v := s.next(), values{}
	var changes [3]int
	if kind >= 180 {
		changes = [3]int{1 + s.next(), s.next(), s.next()}
	}
	for len(s.rest) > 0 {
		digits, exponent := s.next(), s.next()
		v[min((digits+1)<<(exponent%33)-1, mostValue)] += 1 << (exponent / 33 * 3 % 16)
	}
	h := v.histogram(kind % 9)
	if changes[0] > 0 {
		change(&h, changes[0], changes[1], changes[2])
	}
	return h
}

// change changes something of a histogram, most times by a small number.
func change(h *api.Hist, what, where, number int) {
	number -= 128
	if number > 100 || number < -100 {
		number <<= number & 63
	}
	fields := []*int{&h.Sum, &h.Min, &h.Max, &h.Count, &h.Precision}
	if n := len(h.Buckets); n > 0 {
		b := &h.Buckets[where%n]
		fields = append(fields, &b.Index, &b.Count)
		// The numbers of the buckets, and of all values, may still agree.
		if what%16 == 15 {
			h.Count += number
			b.Count += number
			return
		}
	}
	*fields[what%len(fields)] += number
}

// randomHist returns a random histogram, most times a valid one.
func randomHist(random *rand.Rand) api.Hist {
	b := make([]byte, random.Intn(40))
	random.Read(b)
	return histOf(b)
}

// P12.1: random histograms.
func TestRandomHistograms(t *testing.T) {
	random := rand.New(rand.NewSource(12))
	alone, added, merged := map[api.Errno]int{}, map[api.Errno]int{}, map[api.Errno]int{}
	for range 2500 {
		a, b := randomHist(random), randomHist(random)
		alone[checkAlone(t, a)]++
		merged[checkMerge(t, a, b)]++
		added[checkAdd(t, a, random.Intn(1<<random.Intn(42))-1, random.Intn(1<<random.Intn(21))-1)]++
	}
	if alone[api.OK] < 1000 || alone[api.ErrMismatch] < 200 || alone[api.ErrRange] < 50 || alone[api.ErrOrder] < 10 || len(alone) != 4 {
		t.Error("alone", alone)
	}
	if merged[api.OK] < 500 || merged[api.ErrArgument] < 500 {
		t.Error("merged", merged)
	}
	if added[api.OK] < 500 || added[api.ErrArgument] < 500 || added[api.ErrRange] < 50 {
		t.Error("added", added)
	}
}

// P12.1: histograms with as many values or buckets as possible, or nearly.
func TestLimits(t *testing.T) {
	random := rand.New(rand.NewSource(12))
	counts := map[api.Errno]int{}
	for i := range 60 {
		v, w := values{}, values{}
		for range 200 + random.Intn(300) {
			v[random.Intn(1<<random.Intn(41))] = 1 + random.Intn(5000)
			w[random.Intn(1<<random.Intn(41))] = 1 + random.Intn(5000)
		}
		a, b := v.histogram(5+i%4), w.histogram(6+i%3)
		counts[checkAlone(t, a)]++
		counts[checkMerge(t, a, b)]++
		counts[checkAdd(t, a, random.Intn(mostValue), mostCount-a.Count)]++
		counts[checkAdd(t, a, a.Max, mostCount-a.Count)]++
		counts[checkAdd(t, a, a.Min, max(mostCount-a.Count, 0)+1)]++
	}
	if counts[api.OK] < 100 || counts[api.ErrLimit] < 60 || counts[api.ErrArgument] < 10 {
		t.Error(counts)
	}
}

// R3: arguments are not changed, also where there is room behind them, and results are new memory.
func TestMemory(t *testing.T) {
	random := rand.New(rand.NewSource(12))
	pairs := [][2]api.Hist{{of(2, 1, 5), empty(2)}, {of(2, 1, 5), of(2, 1, 5)}, {of(2, 1, 5), of(2, 9)}, {of(2, 1, 5), of(1, 9)}}
	for range 300 {
		pairs = append(pairs, [2]api.Hist{randomHist(random), randomHist(random)})
	}
	for _, pair := range pairs {
		checkMemory(t, pair[0], pair[1])
	}
}

func checkMemory(t *testing.T, a, b api.Hist) {
	t.Helper()
	behind := buckets(-7, 1, -8, 2, -9, 3)
	aroundA, aroundB := slices.Concat(a.Buckets, behind), slices.Concat(b.Buckets, behind)
	argA, argB := a, b
	argA.Buckets, argB.Buckets = aroundA[:len(a.Buckets)], aroundB[:len(b.Buckets)]
	checkAlone(t, argA)
	var results []api.Hist
	for _, f := range []func() (api.Hist, api.Errno){
		func() (api.Hist, api.Errno) { return Add(argA, 3, 0) },
		func() (api.Hist, api.Errno) { return Add(argA, a.Min, 1) },
		func() (api.Hist, api.Errno) { return Add(argA, mostValue, 1) },
		func() (api.Hist, api.Errno) { return Reduce(argA, 0) },
		func() (api.Hist, api.Errno) { return Reduce(argA, a.Precision) },
		func() (api.Hist, api.Errno) { return Merge(argA, argB) },
		func() (api.Hist, api.Errno) { return Merge(argA, argA) },
		func() (api.Hist, api.Errno) { return Merge(argA, empty(8)) },
		func() (api.Hist, api.Errno) { return Merge(empty(8), argB) },
	} {
		h, _ := f()
		results = append(results, h)
	}
	for _, h := range results {
		l := h.Buckets[:cap(h.Buckets)]
		for i := range l {
			l[i] = api.HistBucket{Index: -5, Count: -5}
		}
	}
	if !slices.Equal(aroundA, slices.Concat(a.Buckets, behind)) || !slices.Equal(aroundB, slices.Concat(b.Buckets, behind)) {
		t.Errorf("%v and %v became %v and %v", a, b, aroundA, aroundB)
	}
}

// P12.1 to P12.6: arbitrary histograms, values, numbers and fractions.
func FuzzHistograms(f *testing.F) {
	f.Add([]byte{2, 1, 0, 100, 0, 105, 0}, []byte{1, 96, 0, 0, 0}, []byte{8, 200, 30}, 7, 3, 1, 2)
	f.Add([]byte{183, 15, 1, 200, 5, 40, 6, 240}, []byte{}, []byte{200, 2, 3, 4}, mostValue, mostCount, 1<<60-1, 1<<60)
	f.Fuzz(func(t *testing.T, a, b, c []byte, x, n, num, den int) {
		l := []api.Hist{histOf(a), histOf(b), histOf(c)}
		for _, h := range l {
			isValid := checkAlone(t, h) == api.OK
			checkAdd(t, h, x, n)
			checkQuantile(t, h, frac(num, den))
			checkRank(t, h, x)
			checkReduce(t, h, n)
			for _, other := range l {
				checkMerge(t, h, other)
			}
			if isValid {
				checkValues(t, guess(h), h.Precision)
				checkOrder(t, h)
				checkReduced(t, h)
			}
		}
		checkMerging(t, l[0], l[1], l[2])
	})
}

package loghist

import (
	"maps"
	"math/rand"
	"slices"
	"testing"

	"lookout/api"
)

// added returns the histogram to which values were added in some order, each as often as it occurs.
func added(p int, v values, order []int) (api.Hist, api.Errno) {
	h, e := New(p)
	for _, x := range order {
		if e != api.OK {
			return api.Hist{}, e
		}
		h, e = Add(h, x, v[x])
	}
	return h, e
}

// usual returns fractions from 0 to 1 in ascending order with which no product is too great.
func usual(count int) []api.Ratio {
	l := []api.Ratio{frac(0, 1), frac(1, 1<<40), frac(1, 1000), frac(1, 10), frac(1, 4), frac(1, 3), frac(1, 2), frac(2, 3), frac(3, 4), frac(9, 10), frac(99, 100), frac(999, 1000), frac(1<<40-1, 1<<40), frac(1, 1)}
	for _, phi := range fractions(count) {
		if isFraction(phi) && 0 <= phi.Num && phi.Num <= phi.Den && phi.Den < 1<<30 {
			l = append(l, phi)
		}
	}
	slices.SortFunc(l, func(x, y api.Ratio) int { return product(x, 1).Cmp(product(y, 1)) })
	return slices.Compact(l)
}

// P12.3: the quantiles and ranks of values are within the bounds of their histogram.
func checkValues(t *testing.T, v values, p int) {
	t.Helper()
	h := v.histogram(p)
	for _, phi := range usual(h.Count) {
		low, high, e := Quantile(h, phi)
		if h.Count == 0 {
			if e != api.ErrNothing {
				t.Errorf("quantile %v of nothing: error %d", phi, e)
			}
			continue
		}
		if x := v.at(rankOf(h.Count, phi)); e != api.OK || low > x || x > high || low < h.Min || high > h.Max {
			t.Errorf("quantile %v of %v: from %d to %d, error %d instead of %d", phi, short(h), low, high, e, x)
		}
	}
	for x := range v {
		for _, y := range []int{x - 1, x, x + 1, 2 * x} {
			certain, possible, e := Rank(h, y)
			if n := v.upTo(y); e != api.OK || certain > n || n > possible {
				t.Errorf("rank of %d in %v: from %d to %d, error %d instead of %d", y, short(h), certain, possible, e, n)
			}
		}
	}
}

// P12.6: the bounds of quantiles ascend, and the ranks agree with them.
func checkOrder(t *testing.T, h api.Hist) {
	t.Helper()
	if h.Count == 0 {
		return
	}
	lastLow, lastHigh := 0, 0
	for _, phi := range usual(h.Count) {
		low, high, e := Quantile(h, phi)
		if e != api.OK || low < lastLow || high < lastHigh || low > high {
			t.Errorf("quantile %v of %v: from %d to %d, error %d, and a lesser one from %d to %d", phi, short(h), low, high, e, lastLow, lastHigh)
		}
		lastLow, lastHigh = low, high
		rank := rankOf(h.Count, phi)
		if certain, _, _ := Rank(h, high); certain < rank {
			t.Errorf("quantile %v of %v is at most %d, but only %d values are certainly not greater", phi, short(h), high, certain)
		}
		if _, possible, _ := Rank(h, low-1); possible >= rank {
			t.Errorf("quantile %v of %v is at least %d, but %d values are possibly less", phi, short(h), low, possible)
		}
	}
}

// P12.5: what is reduced has the same values, in one step or several, and bounds around the ones it had.
func checkReduced(t *testing.T, h api.Hist) {
	t.Helper()
	for p := range h.Precision + 1 {
		r, e := Reduce(h, p)
		checkHist(t, "Reduce", r, e, guess(h).histogram(p), api.OK, short(h), p)
		for q := range p + 1 {
			twice, e := Reduce(r, q)
			once, eOnce := Reduce(h, q)
			checkHist(t, "reduced twice", twice, e, once, eOnce, short(h), p, q)
		}
		for _, phi := range usual(h.Count) {
			low, high, e := Quantile(h, phi)
			wideLow, wideHigh, eWide := Quantile(r, phi)
			if e != eWide || low < wideLow || high > wideHigh {
				t.Errorf("quantile %v of %v: from %d to %d, error %d, reduced to %d from %d to %d, error %d", phi, short(h), low, high, e, p, wideLow, wideHigh, eWide)
			}
		}
	}
}

// merged returns the histograms merged one after the other.
func merged(l ...api.Hist) (api.Hist, api.Errno) {
	h, e := l[0], api.OK
	for _, x := range l[1:] {
		if e != api.OK {
			return api.Hist{}, e
		}
		h, e = Merge(h, x)
	}
	return h, e
}

// P12.4: merging is commutative and associative, and adding all values.
func checkMerging(t *testing.T, a, b, c api.Hist) bool {
	t.Helper()
	if Check(a) != api.OK || Check(b) != api.OK || Check(c) != api.OK {
		return false
	}
	ab, e := Merge(a, b)
	ba, eOther := Merge(b, a)
	checkHist(t, "Merge is commutative", ab, e, ba, eOther, short(a), short(b))
	all, eAll := merged(a, b, c)
	bc, e := Merge(b, c)
	if e != api.OK || eAll != api.OK {
		return false
	}
	other, e := Merge(a, bc)
	if e == api.OK {
		checkHist(t, "Merge is associative", other, e, all, eAll, short(a), short(b), short(c))
	}
	v := guess(a).and(guess(b)).and(guess(c))
	order := slices.Sorted(maps.Keys(v))
	for range 2 {
		one, e := added(all.Precision, v, order)
		checkHist(t, "added", one, e, all, api.OK, short(a), short(b), short(c))
		slices.Reverse(order)
	}
	return true
}

// P12.2: the buckets are one after the other, and not too wide.
func TestAllBuckets(t *testing.T) {
	for p := range 9 {
		next, count := 0, 0
		for i := 0; next <= mostValue; i++ {
			low, high, e := Bounds(p, i)
			if e != api.OK || low != next || high < low {
				t.Fatalf("bucket %d, precision %d: from %d to %d, error %d instead of from %d", i, p, low, high, e, next)
			}
			if low != bucketTables[p][i][0] || high != bucketTables[p][i][1] {
				t.Errorf("bucket %d, precision %d: from %d to %d instead of %v", i, p, low, high, bucketTables[p][i])
			}
			if width := high - low + 1; width > 1 && width > low/(1<<p) {
				t.Errorf("bucket %d, precision %d: from %d to %d", i, p, low, high)
			}
			for _, v := range []int{low, low + 1, low + (high-low)/2, high - 1, high} {
				if j, e := Index(p, v); low <= v && v <= high && (i != j || e != api.OK) {
					t.Errorf("value %d, precision %d: bucket %d, error %d instead of %d", v, p, j, e, i)
				}
			}
			next = high + 1
			count++
		}
		if _, _, e := Bounds(p, count); e != api.ErrRange || count != (41-p)<<p+1 {
			t.Errorf("precision %d: %d buckets, error %d", p, count, e)
		}
	}
}

// P12.2: each value is in its bucket, and greater values are not in lower buckets.
func TestValuesInBuckets(t *testing.T) {
	random := rand.New(rand.NewSource(12))
	for p := range 9 {
		l := []int{0, 1, mostValue - 1, mostValue}
		for range 5000 {
			l = append(l, random.Intn(1<<random.Intn(41)))
		}
		slices.Sort(l)
		before := 0
		for _, v := range l {
			i, e := Index(p, v)
			low, high, eBounds := Bounds(p, i)
			if e != api.OK || eBounds != api.OK || v < low || v > high || i < before || i != bucketOf(p, v) {
				t.Errorf("value %d, precision %d: bucket %d, error %d, from %d to %d, error %d, after the bucket %d", v, p, i, e, low, high, eBounds, before)
			}
			before = i
		}
	}
}

// P12.3, P12.5, P12.6
func TestValues(t *testing.T) {
	random := rand.New(rand.NewSource(12))
	for i := range 400 {
		v := values{}
		for range random.Intn(40) {
			v[random.Intn(1<<random.Intn(41)+1)] = 1 + random.Intn(1<<random.Intn(12))
		}
		checkValues(t, v, i%9)
		checkOrder(t, v.histogram(i%9))
		checkReduced(t, v.histogram(i%9))
	}
	for n := range 300 {
		v := values{}
		for range 1 + n%5 {
			v[random.Intn(20)]++
		}
		checkValues(t, v, n%3)
		checkOrder(t, v.histogram(n%3))
		checkReduced(t, v.histogram(n%3))
	}
}

// P12.4
func TestMerging(t *testing.T) {
	random := rand.New(rand.NewSource(12))
	count := 0
	for range 3000 {
		if checkMerging(t, randomHist(random), randomHist(random), randomHist(random)) {
			count++
		}
	}
	if count < 500 {
		t.Errorf("only %d can be merged", count)
	}
}

// P12.4: the order in which values are added does not matter, one by one or several at once.
func TestOrderOfAdding(t *testing.T) {
	random := rand.New(rand.NewSource(12))
	for i := range 300 {
		var l []int
		for range random.Intn(50) {
			l = append(l, random.Intn(1<<random.Intn(41)))
		}
		want := of(i%9, l...)
		for range 3 {
			random.Shuffle(len(l), func(i, k int) { l[i], l[k] = l[k], l[i] })
			one, e := New(i % 9)
			for _, x := range l {
				one, e = Add(one, x, 1)
				if e != api.OK {
					t.Errorf("Add: error %d", e)
				}
			}
			checkHist(t, "added", one, e, want, api.OK, l)
			several, e := added(i%9, valuesOf(l...), slices.Compact(slices.Sorted(slices.Values(l))))
			checkHist(t, "added", several, e, want, api.OK, l)
		}
	}
}

// P12.3: all buckets are yielded, each with the number of values up to it; who has seen enough can stop, and begin again.
func TestAscending(t *testing.T) {
	h := of(0, 0, 2, 3, 9, 9, 11, 20)
	want := []bucket{{1, 0, 0}, {2, 2, 3}, {3, 8, 15}, {1, 16, 20}}
	counts := []int{1, 3, 6, 7}
	walk := ascending(h)
	for most := range 6 {
		i := 0
		for b, upTo := range walk {
			if i == most {
				break
			}
			if b != want[i] || upTo != counts[i] {
				t.Errorf("bucket %d: %v, %d", i, b, upTo)
			}
			i++
		}
		if i != min(most, 4) {
			t.Errorf("%d of %d buckets", i, most)
		}
	}
}

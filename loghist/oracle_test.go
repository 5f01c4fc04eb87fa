package loghist

import (
	"maps"
	"math/big"
	"slices"
	"sort"

	"lookout/api"
)

const (
	mostValue = 1 << 40
	mostCount = 1 << 20
)

// bucketTables are the lists of all buckets for each precision, so that the index of a bucket is that in its list; the fields are the least and the greatest value.
var bucketTables = allBuckets()

// allBuckets lays the buckets one after the other, up to the one that contains MaxValue: one each for the values with at most p + 1 binary digits, and 2^p of equal width for each greater number of digits.
func allBuckets() (tables [9][][2]int) {
	for p := range tables {
		next, width, left := 0, 1, 2<<p
		for next <= mostValue {
			if left == 0 {
				width, left = 2*width, 1<<p
			}
			tables[p] = append(tables[p], [2]int{next, min(next+width-1, mostValue)})
			next += width
			left--
		}
	}
	return tables
}

// bucketOf returns the index of the bucket of a value.
func bucketOf(p, value int) int {
	table := bucketTables[p]
	return sort.Search(len(table), func(i int) bool { return table[i][1] >= value })
}

// values are some values from 0 to MaxValue, with how often they occur.
type values map[int]int

func valuesOf(l ...int) values {
	v := values{}
	for _, x := range l {
		v[x]++
	}
	return v
}

// and returns the values of both.
func (v values) and(w values) values {
	both := maps.Clone(v)
	for x, n := range w {
		both[x] += n
	}
	return both
}

// at returns the value with a number, counted from 1, in ascending order.
func (v values) at(number int) int {
	for _, x := range slices.Sorted(maps.Keys(v)) {
		number -= v[x]
		if number <= 0 {
			return x
		}
	}
	panic("not so many values")
}

// upTo returns the number of values that are not greater than x.
func (v values) upTo(x int) int {
	count := 0
	for y, n := range v {
		if y <= x {
			count += n
		}
	}
	return count
}

// histogram returns the histogram of the values, whatever its size.
func (v values) histogram(p int) api.Hist {
	h := api.Hist{Precision: p}
	for _, x := range slices.Sorted(maps.Keys(v)) {
		if v[x] == 0 {
			continue
		}
		if h.Count == 0 {
			h.Min = x
		}
		h.Max = x
		h.Count += v[x]
		h.Sum += x * v[x]
		i, last := bucketOf(p, x), len(h.Buckets)-1
		if last >= 0 && h.Buckets[last].Index == i {
			h.Buckets[last].Count += v[x]
		} else {
			h.Buckets = append(h.Buckets, api.HistBucket{Index: i, Count: v[x]})
		}
	}
	return h
}

// limited returns the histogram of the values if it is small enough.
func (v values) limited(p int) (api.Hist, api.Errno) {
	count := 0
	for _, n := range v {
		count = min(count+n, mostCount+1)
	}
	if count > mostCount {
		return api.Hist{}, api.ErrLimit
	}
	if h := v.histogram(p); len(h.Buckets) <= 500 {
		return h, api.OK
	}
	return api.Hist{}, api.ErrLimit
}

func equal(a, b api.Hist) bool {
	return a.Precision == b.Precision && a.Count == b.Count && a.Sum == b.Sum && a.Min == b.Min && a.Max == b.Max && slices.Equal(a.Buckets, b.Buckets)
}

// guess returns values whose histogram h is, if there are any, otherwise some other values. It begins with the least ones that the buckets allow, and makes them greater, beginning with the lowest buckets, as long as the sum is too small. The buckets must be right.
func guess(h api.Hist) values {
	v, missing := values{}, h.Sum
	take := func(value, n int) {
		v[value] += n
		missing -= value * n
	}
	type room struct{ low, high, n int }
	var rooms []room
	for i, b := range h.Buckets {
		limits, n := bucketTables[h.Precision][b.Index], b.Count
		if i == 0 {
			take(h.Min, 1)
			n--
		}
		if i == len(h.Buckets)-1 && n > 0 {
			take(h.Max, 1)
			n--
		}
		r := room{max(limits[0], h.Min), min(limits[1], h.Max), n}
		rooms = append(rooms, r)
		take(r.low, r.n)
	}
	for _, r := range rooms {
		width := r.high - r.low
		if r.n == 0 || width <= 0 || missing <= 0 {
			continue
		}
		full := min(r.n, missing/width)
		take(r.low, -full)
		take(r.high, full)
		if full < r.n {
			between := r.low + missing
			take(r.low, -1)
			take(between, 1)
		}
	}
	return v
}

// wantCheck is what Check must return.
func wantCheck(h api.Hist) api.Errno {
	if h.Precision < 0 || h.Precision > 8 {
		return api.ErrRange
	}
	if len(h.Buckets) > 500 {
		return api.ErrLimit
	}
	count := 0
	for i, b := range h.Buckets {
		if b.Index < 0 || b.Index >= len(bucketTables[h.Precision]) || b.Count < 1 || b.Count > mostCount {
			return api.ErrRange
		}
		if i > 0 && h.Buckets[i-1].Index >= b.Index {
			return api.ErrOrder
		}
		count += b.Count
	}
	if count > mostCount {
		return api.ErrLimit
	}
	if h.Min < 0 || h.Max > mostValue || h.Min > h.Max || !equal(guess(h).histogram(h.Precision), h) {
		return api.ErrMismatch
	}
	return api.OK
}

// wantAdd is what Add must return.
func wantAdd(h api.Hist, value, n int) (api.Hist, api.Errno) {
	if wantCheck(h) != api.OK {
		return api.Hist{}, api.ErrArgument
	}
	if value < 0 || value > mostValue || n < 0 {
		return api.Hist{}, api.ErrRange
	}
	return guess(h).and(values{value: min(n, mostCount+1)}).limited(h.Precision)
}

// wantReduce is what Reduce must return.
func wantReduce(h api.Hist, precision int) (api.Hist, api.Errno) {
	if wantCheck(h) != api.OK {
		return api.Hist{}, api.ErrArgument
	}
	if precision < 0 || precision > h.Precision {
		return api.Hist{}, api.ErrRange
	}
	return guess(h).limited(precision)
}

// wantMerge is what Merge must return.
func wantMerge(a, b api.Hist) (api.Hist, api.Errno) {
	if wantCheck(a) != api.OK || wantCheck(b) != api.OK {
		return api.Hist{}, api.ErrArgument
	}
	return guess(a).and(guess(b)).limited(min(a.Precision, b.Precision))
}

// inside returns the bounds of the values in a bucket, of which Min and Max are known.
func inside(h api.Hist, index int) (int, int) {
	limits := bucketTables[h.Precision][index]
	return max(limits[0], h.Min), min(limits[1], h.Max)
}

// wantQuantile is what Quantile must return.
func wantQuantile(h api.Hist, phi api.Ratio) (int, int, api.Errno) {
	if wantCheck(h) != api.OK || !isFraction(phi) {
		return 0, 0, api.ErrArgument
	}
	if phi.Num < 0 || phi.Num > phi.Den {
		return 0, 0, api.ErrRange
	}
	if h.Count == 0 {
		return 0, 0, api.ErrNothing
	}
	if times, bound := product(phi, h.Count), big.NewInt(1<<60); times.Num().Cmp(bound) > 0 || times.Denom().Cmp(bound) > 0 {
		return 0, 0, api.ErrOverflow
	}
	low, high := inside(h, bucketOf(h.Precision, guess(h).at(rankOf(h.Count, phi))))
	return low, high, api.OK
}

// rankOf returns the rank of a fraction from 0 to 1 among some values, of which there is one, found by trying.
func rankOf(count int, phi api.Ratio) int {
	times := product(phi, count)
	return 1 + sort.Search(count-1, func(i int) bool { return big.NewRat(int64(i+1), 1).Cmp(times) >= 0 })
}

// product returns the product of a fraction and a number.
func product(x api.Ratio, n int) *big.Rat {
	return new(big.Rat).Mul(big.NewRat(int64(x.Num), int64(x.Den)), big.NewRat(int64(n), 1))
}

// isFraction reports whether a fraction is valid.
func isFraction(x api.Ratio) bool {
	if x.Den < 1 || x.Den > 1<<60 || x.Num > 1<<60 || x.Num < -1<<60 {
		return false
	}
	reduced := big.NewRat(int64(x.Num), int64(x.Den))
	return reduced.Num().Int64() == int64(x.Num) && reduced.Denom().Int64() == int64(x.Den)
}

// wantRank is what Rank must return.
func wantRank(h api.Hist, x int) (int, int, api.Errno) {
	if wantCheck(h) != api.OK {
		return 0, 0, api.ErrArgument
	}
	certain, possible := 0, 0
	for _, b := range h.Buckets {
		low, high := inside(h, b.Index)
		if high <= x {
			certain += b.Count
		}
		if low <= x {
			possible += b.Count
		}
	}
	return certain, possible, api.OK
}

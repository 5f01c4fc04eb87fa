package loghist

import "lookout/api"

// maxValues is the greatest number of values of a histogram.
const maxValues = 1 << 20

// Check returns why h is not valid.
func Check(h api.Hist) api.Errno {
	switch {
	case !isPrecision(h.Precision):
		return api.ErrRange
	case len(h.Buckets) > api.MaxBuckets:
		return api.ErrLimit
	}
	count, e := countValues(h)
	switch {
	case e != api.OK:
		return e
	case count > maxValues:
		return api.ErrLimit
	case count != h.Count || !hasValues(h):
		return api.ErrMismatch
	}
	return api.OK
}

// countValues returns the number of values in the buckets of h, or why these are not buckets in order.
func countValues(h api.Hist) (int, api.Errno) {
	count, before := 0, -1
	for _, b := range h.Buckets {
		_, _, e := Bounds(h.Precision, b.Index)
		switch {
		case e != api.OK || b.Count < 1 || b.Count > maxValues:
			return 0, api.ErrRange
		case b.Index <= before:
			return 0, api.ErrOrder
		}
		count += b.Count
		before = b.Index
	}
	return count, api.OK
}

// hasValues reports whether there are values with the Sum, Min, Max and buckets of h, in which are Count values.
func hasValues(h api.Hist) bool {
	if h.Count == 0 {
		return h.Sum == 0 && h.Min == 0 && h.Max == 0
	}
	first, last := h.Buckets[0].Index, h.Buckets[len(h.Buckets)-1].Index
	if h.Min > h.Max || !isIn(h.Min, h.Precision, first) || !isIn(h.Max, h.Precision, last) {
		return false
	}
	least, greatest := sums(h)
	return least <= h.Sum && h.Sum <= greatest
}

// isIn reports whether a value is in a bucket.
func isIn(value, precision, index int) bool {
	i, e := Index(precision, value)
	return e == api.OK && i == index
}

// sums returns the least and the greatest sum of values with the buckets, Min and Max of h, between which all others are. The least one is greater, and there is none, if Min and Max differ and there is only one value.
func sums(h api.Hist) (int, int) {
	least, greatest := h.Max, h.Min
	for b, upTo := range ascending(h) {
		lowest, highest := b.count, b.count
		// One value of the last bucket is Max even if the others are as low as possible, and one of the first bucket is Min.
		if upTo == h.Count {
			lowest--
		}
		if upTo == b.count {
			highest--
		}
		least += lowest * b.low
		greatest += highest * b.high
	}
	return least, greatest
}

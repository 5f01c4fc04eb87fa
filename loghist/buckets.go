package loghist

import (
	"iter"
	"math/bits"

	"lookout/api"
)

// maxPrecision is the greatest precision of a histogram.
const maxPrecision = 8

// A bucket has the number of its values, and bounds of them.
type bucket struct {
	count, low, high int
}

// Index returns the index of the bucket of a value.
func Index(precision, value int) (int, api.Errno) {
	if !isPrecision(precision) || value < 0 || value > api.MaxValue {
		return 0, api.ErrRange
	}
	return indexOf(precision, value), api.OK
}

// Bounds returns the least and the greatest value of a bucket.
func Bounds(precision, index int) (int, int, api.Errno) {
	if !isPrecision(precision) || index < 0 || index > indexOf(precision, api.MaxValue) {
		return 0, 0, api.ErrRange
	}
	// As in indexOf, k counts as 0 for a small value.
	k := max(index>>precision-1, 0)
	low := (index - k<<precision) << k
	// No value is greater than MaxValue, which is why the last bucket is narrow.
	high := min(low+1<<k-1, api.MaxValue)
	return low, high, api.OK
}

// isPrecision reports whether a histogram can have a precision.
func isPrecision(precision int) bool {
	return 0 <= precision && precision <= maxPrecision
}

// indexOf returns the index of the bucket of a value in its range.
func indexOf(precision, value int) int {
	// The index of a small value is this value, as if k were 0.
	k := max(bits.Len(uint(value))-1-precision, 0)
	return k<<precision + value>>k
}

// ascending yields the buckets of a histogram, each with the number of values in it and in those before. Their bounds are within Min and Max.
func ascending(h api.Hist) iter.Seq2[bucket, int] {
	return func(yield func(bucket, int) bool) {
		upTo := 0
		for _, b := range h.Buckets {
			low, high, _ := Bounds(h.Precision, b.Index)
			upTo += b.Count
			if !yield(bucket{b.Count, max(low, h.Min), min(high, h.Max)}, upTo) {
				return
			}
		}
	}
}

// withRank returns the bounds of the value of a histogram with a number, counted from 1 in ascending order.
func withRank(h api.Hist, rank int) (int, int) {
	for b, upTo := range ascending(h) {
		if upTo >= rank {
			return b.low, b.high
		}
	}
	return 0, 0
}

package dictcol

import (
	"iter"
	"slices"

	"lookout/varint"
)

// encoding returns the encoding of a column, however long it is.
func encoding(l []string) string {
	d := dictionary(l)
	b := appendNumber(nil, len(l))
	b = appendNumber(b, len(d))
	b = appendDictionary(b, d)
	return string(appendRuns(b, l, indices(d)))
}

// dictionary returns the different strings of a list in ascending order.
func dictionary(l []string) []string {
	return slices.Compact(slices.Sorted(slices.Values(l)))
}

// indices returns where each string of a dictionary stands.
func indices(d []string) map[string]int {
	at := map[string]int{}
	for i, x := range d {
		at[x] = i
	}
	return at
}

// appendDictionary appends each string without the prefix that it shares with the one before.
func appendDictionary(b []byte, d []string) []byte {
	before := ""
	for _, x := range d {
		shared := sharedBytes(before, x)
		b = appendNumber(b, shared)
		b = appendNumber(b, len(x)-shared)
		b = append(b, x[shared:]...)
		before = x
	}
	return b
}

// sharedBytes returns the length of the longest common prefix of two strings.
func sharedBytes(x, y string) int {
	n := 0
	for n < min(len(x), len(y)) && x[n] == y[n] {
		n++
	}
	return n
}

// appendRuns appends the runs of a column, whose strings have the given indices in the dictionary.
func appendRuns(b []byte, l []string, at map[string]int) []byte {
	for x, length := range runs(l) {
		b = appendNumber(appendNumber(b, at[x]), length-1)
	}
	return b
}

// runs yields the string and the length of each longest part of equal neighbours.
func runs(l []string) iter.Seq2[string, int] {
	return func(yield func(string, int) bool) {
		length := 0
		for i, x := range l {
			length++
			if i+1 < len(l) && l[i+1] == x {
				continue
			}
			if !yield(x, length) {
				return
			}
			length = 0
		}
	}
}

// appendNumber appends the encoding of a number from 0 to MaxInt. It does not give b to layer 1, which would copy it for each number.
func appendNumber(b []byte, n int) []byte {
	s, _ := varint.Append("", n)
	return append(b, s...)
}

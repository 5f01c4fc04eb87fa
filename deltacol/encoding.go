package deltacol

import (
	"iter"

	"lookout/api"
	"lookout/varint"
)

// encode returns the encoding of a column. The functions check and append its elements.
func encode(l []int, check func([]int) api.Errno, appendAll func([]byte, []int) []byte) (string, api.Errno) {
	if len(l) > maxElements {
		return "", api.ErrLimit
	}
	if e := check(l); e != api.OK {
		return "", e
	}
	return string(appendAll(appendNumber(nil, len(l)), l)), api.OK
}

// appendTimes appends the encoding of times without their number: what follows the first time is that of values, which are the differences.
func appendTimes(b []byte, l []int) []byte {
	return appendColumn(b, l, appendValues)
}

// appendValues appends the encoding of values without their number.
func appendValues(b []byte, l []int) []byte {
	return appendColumn(b, l, appendRuns)
}

// appendColumn appends the first number of a list, if there is one, and what the function appends for the differences of neighbours.
func appendColumn(b []byte, l []int, appendDifferences func([]byte, []int) []byte) []byte {
	if len(l) == 0 {
		return b
	}
	return appendDifferences(appendSigned(b, l[0]), differences(l))
}

func differences(l []int) []int {
	var d []int
	for i := 1; i < len(l); i++ {
		d = append(d, l[i]-l[i-1])
	}
	return d
}

func appendRuns(b []byte, l []int) []byte {
	for n, length := range runs(l) {
		b = appendNumber(appendSigned(b, n), length)
	}
	return b
}

// runs yields the number and the length of each longest part of equal neighbours.
func runs(l []int) iter.Seq2[int, int] {
	return func(yield func(int, int) bool) {
		length := 0
		for i, n := range l {
			length++
			if i+1 < len(l) && l[i+1] == n {
				continue
			}
			if !yield(n, length) {
				return
			}
			length = 0
		}
	}
}

// appendNumber appends the encoding of a number from 0 to MaxInt. It does not give b to layer 1, which would copy it for each number.
func appendNumber(b []byte, n int) []byte {
	s, _ := varint.Append("", n)
	return append(b, s...)
}

// appendSigned does the same with the signed encoding of a number from -MaxInt to MaxInt.
func appendSigned(b []byte, n int) []byte {
	s, _ := varint.AppendSigned("", n)
	return append(b, s...)
}

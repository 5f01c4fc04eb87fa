package postings

import (
	"lookout/api"
	"lookout/varint"
)

// Encode returns the encoding of a list.
func Encode(l []int) (string, api.Errno) {
	if isInvalid(l) {
		return "", api.ErrArgument
	}
	b := appendNumber(nil, len(l))
	before := beforeFirst
	for _, n := range l {
		b = appendNumber(b, n-before-1)
		before = n
	}
	return string(b), api.OK
}

// Decode returns the list with an encoding.
func Decode(s string) ([]int, api.Errno) {
	count, at, e := varint.Read(s)
	if e != api.OK {
		return nil, api.ErrDecode
	}
	var l []int
	before := beforeFirst
	for range count {
		gap, size, e := varint.Read(s[at:])
		// Neither number is greater than MaxInt, so an int holds the sum.
		n := before + 1 + gap
		if e != api.OK || n > api.MaxInt {
			return nil, api.ErrDecode
		}
		l = append(l, n)
		before = n
		at += size
	}
	if at < len(s) {
		return nil, api.ErrDecode
	}
	return l, api.OK
}

// appendNumber appends the encoding of a number from 0 to MaxInt. It does not give b to layer 1, which would copy it for each number.
func appendNumber(b []byte, n int) []byte {
	s, _ := varint.Append("", n)
	return append(b, s...)
}

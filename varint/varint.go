// Package varint is layer 1; see shared/doc/01-varint.md.
package varint

import (
	"iter"

	"lookout/api"
)

const (
	groupBits  = 7
	moreBit    = 1 << groupBits // set in every byte of an encoding but the last one
	maxBytes   = 9
	maxNumbers = 20000 // in a list
)

// Append returns s followed by the encoding of n, which is from 0 to MaxInt.
func Append(s string, n int) (string, api.Errno) {
	if !encodable(n) {
		return "", api.ErrRange
	}
	return s + string(appendGroups(nil, n)), api.OK
}

// Read returns the number from 0 to MaxInt with whose encoding s begins, and the number of its bytes.
func Read(s string) (int, int, api.Errno) {
	return readUpTo(s, api.MaxInt)
}

// AppendSigned returns s followed by the signed encoding of n, which is from -MaxInt to MaxInt.
func AppendSigned(s string, n int) (string, api.Errno) {
	if !signedEncodable(n) {
		return "", api.ErrRange
	}
	return s + string(appendGroups(nil, fold(n))), api.OK
}

// ReadSigned returns the number from -MaxInt to MaxInt with whose signed encoding s begins, and the number of its bytes.
func ReadSigned(s string) (int, int, api.Errno) {
	// What folds into a number up to this one is just what is from -MaxInt to MaxInt.
	n, size, e := readUpTo(s, 2*api.MaxInt)
	return unfold(n), size, e
}

// Size returns the number of bytes of the encoding of n, or 0 if it has none.
func Size(n int) int {
	if !encodable(n) {
		return 0
	}
	return len(appendGroups(nil, n))
}

// Encode returns the encoding of a list of at most 20000 numbers from -MaxInt to MaxInt.
func Encode(l []int) (string, api.Errno) {
	if len(l) > maxNumbers {
		return "", api.ErrLimit
	}
	b := appendGroups(nil, len(l))
	for _, n := range l {
		if !signedEncodable(n) {
			return "", api.ErrRange
		}
		b = appendGroups(b, fold(n))
	}
	return string(b), api.OK
}

// Decode returns the list whose encoding is all of s.
func Decode(s string) ([]int, api.Errno) {
	count, at, e := Read(s)
	if e != api.OK {
		return nil, e
	}
	if count > maxNumbers {
		return nil, api.ErrLimit
	}
	var l []int
	for range count {
		n, size, e := ReadSigned(s[at:])
		if e != api.OK {
			return nil, e
		}
		l = append(l, n)
		at += size
	}
	if at < len(s) {
		return nil, api.ErrDecode
	}
	return l, api.OK
}

func encodable(n int) bool {
	return 0 <= n && n <= api.MaxInt
}

func signedEncodable(n int) bool {
	return -api.MaxInt <= n && n <= api.MaxInt
}

// fold maps the numbers of both signs to those that are not negative, so that numbers near 0 stay small.
func fold(n int) int {
	if n < 0 {
		return -2*n - 1
	}
	return 2 * n
}

// unfold is the inverse of fold.
func unfold(n int) int {
	if n%2 == 1 {
		return -(n / 2) - 1
	}
	return n / 2
}

// appendGroups appends the encoding of a number that is not negative.
func appendGroups(b []byte, n int) []byte {
	for n >= moreBit {
		b = append(b, byte(n%moreBit+moreBit))
		n >>= groupBits
	}
	return append(b, byte(n))
}

// encodingBytes yields the bytes of the encoding with which s begins, with their indices. Without a last byte, it yields all of s.
func encodingBytes(s string) iter.Seq2[int, byte] {
	return func(yield func(int, byte) bool) {
		for i := 0; i < len(s); i++ {
			if !yield(i, s[i]) || s[i] < moreBit {
				return
			}
		}
	}
}

// readUpTo returns the number up to most with whose encoding s begins, and the number of its bytes.
func readUpTo(s string, most int) (int, int, api.Errno) {
	n := 0
	for i, b := range encodingBytes(s) {
		// An int holds the 63 bits of nine groups, so n cannot overflow before the ninth byte is checked.
		n |= int(b%moreBit) << (groupBits * i)
		size := i + 1
		switch {
		case b >= moreBit && size < maxBytes:
			continue
		case b >= moreBit, b == 0 && size > 1, n > most:
			return 0, 0, api.ErrDecode
		}
		return n, size, api.OK
	}
	return 0, 0, api.ErrShort
}

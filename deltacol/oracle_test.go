package deltacol

import (
	"encoding/binary"
	"slices"

	"lookout/api"
	"lookout/varint"
)

// A kind of columns: its functions, and what its columns are.
type kind struct {
	name        string
	encode      func([]int) (string, api.Errno)
	decode      func(string) ([]int, api.Errno)
	alone       int // the number of numbers that stand before the runs, and of times that differences are taken
	least, most int
	ascends     bool
}

func times() kind {
	return kind{"times", EncodeTimes, DecodeTimes, 2, 1, 1 << 40, true}
}

func values() kind {
	return kind{"values", EncodeValues, DecodeValues, 1, -1 << 59, 1 << 59, false}
}

func kinds() []kind {
	return []kind{times(), values()}
}

// wantCheck is the error that encoding must return.
func (k kind) wantCheck(l []int) api.Errno {
	if len(l) > 20000 {
		return api.ErrLimit
	}
	for i, n := range l {
		if n < k.least || n > k.most {
			return api.ErrRange
		}
		if k.ascends && i > 0 && n <= l[i-1] {
			return api.ErrOrder
		}
	}
	return api.OK
}

// wantEncode is what encoding must return. The standard library has the same encodings of numbers.
func (k kind) wantEncode(l []int) (string, api.Errno) {
	if e := k.wantCheck(l); e != api.OK {
		return "", e
	}
	rest := slices.Clone(l)
	for first := 1; first <= k.alone; first++ {
		for i := len(rest) - 1; i >= first; i-- {
			rest[i] -= rest[i-1]
		}
	}
	b := binary.AppendUvarint(nil, uint64(len(l)))
	for i := 0; i < k.alone && len(rest) > 0; i++ {
		b = binary.AppendVarint(b, int64(rest[0]))
		rest = rest[1:]
	}
	for len(rest) > 0 {
		length := slices.IndexFunc(rest, func(n int) bool { return n != rest[0] })
		if length < 0 {
			length = len(rest)
		}
		b = binary.AppendVarint(b, int64(rest[0]))
		b = binary.AppendUvarint(b, uint64(length))
		rest = rest[length:]
	}
	return string(b), api.OK
}

// wantDecode is what decoding must return. It takes the errors of numbers from layer 1, as the chapter says.
func (k kind) wantDecode(s string) ([]int, api.Errno) {
	count, at, e := varint.Read(s)
	switch {
	case e != api.OK:
		return nil, e
	case count > 20000:
		return nil, api.ErrLimit
	}
	var l []int
	for len(l) < count {
		n, size, e := varint.ReadSigned(s[at:])
		if e != api.OK {
			return nil, e
		}
		at += size
		if len(l) < k.alone {
			l = append(l, n)
			continue
		}
		length, size, e := varint.Read(s[at:])
		if e != api.OK {
			return nil, e
		}
		at += size
		if length == 0 || len(l)+length > count {
			return nil, api.ErrDecode
		}
		l = append(l, slices.Repeat([]int{n}, length)...)
	}
	for first := k.alone; first > 0; first-- {
		for i := first; i < count; i++ {
			l[i] += l[i-1]
			// No difference and no element of a column is that great.
			if l[i] > 1<<60 || l[i] < -1<<60 {
				return nil, api.ErrDecode
			}
		}
	}
	if encoding, _ := k.wantEncode(l); encoding != s {
		return nil, api.ErrDecode
	}
	return l, api.OK
}

// wantCount is what Count must return.
func wantCount(s string) (int, api.Errno) {
	n, _, e := varint.Read(s)
	if n > 20000 {
		return 0, api.ErrLimit
	}
	return n, e
}

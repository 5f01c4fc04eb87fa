package postings

import (
	"encoding/binary"
	"maps"
	"slices"

	"lookout/api"
)

// wantCheck is what Check must return.
func wantCheck(l []int) api.Errno {
	for i := range l {
		if l[i] < 0 || l[i] > 1<<60 {
			return api.ErrRange
		}
		if i > 0 && l[i] <= l[i-1] {
			return api.ErrOrder
		}
	}
	return api.OK
}

// wantSets returns what And, Or and Without must return.
func wantSets(a, b []int) (and, or, without []int) {
	if wantCheck(a) != api.OK || wantCheck(b) != api.OK {
		return nil, nil, nil
	}
	for _, n := range wantMerge([][]int{a, b}) {
		inA, inB := slices.Contains(a, n), slices.Contains(b, n)
		or = append(or, n)
		if inA && inB {
			and = append(and, n)
		}
		if inA && !inB {
			without = append(without, n)
		}
	}
	return and, or, without
}

// wantMerge is what Merge must return.
func wantMerge(l [][]int) []int {
	set := map[int]bool{}
	for _, x := range l {
		if wantCheck(x) != api.OK {
			return nil
		}
		for _, n := range x {
			set[n] = true
		}
	}
	return slices.Sorted(maps.Keys(set))
}

// wantSeek is what Seek must return.
func wantSeek(l []int, x int) int {
	if wantCheck(l) != api.OK {
		return 0
	}
	below := 0
	for _, n := range l {
		if n < x {
			below++
		}
	}
	return below
}

// wantEncode is what Encode must return. The standard library has the same encodings of numbers.
func wantEncode(l []int) (string, api.Errno) {
	if wantCheck(l) != api.OK {
		return "", api.ErrArgument
	}
	b := binary.AppendUvarint(nil, uint64(len(l)))
	for i, n := range l {
		if i > 0 {
			n -= l[i-1] + 1
		}
		b = binary.AppendUvarint(b, uint64(n))
	}
	return string(b), api.OK
}

// wantDecode is what Decode must return: the numbers are read as if s were an encoding, and then it must be theirs.
func wantDecode(s string) ([]int, api.Errno) {
	b := []byte(s)
	_, at := binary.Uvarint(b)
	var l []int
	for at > 0 && at < len(b) {
		gap, size := binary.Uvarint(b[at:])
		if size <= 0 || gap > 1<<60 {
			return nil, api.ErrDecode
		}
		n := int(gap)
		if len(l) > 0 {
			n += l[len(l)-1] + 1
		}
		if n > 1<<60 {
			return nil, api.ErrDecode
		}
		l = append(l, n)
		at += size
	}
	if encoding, _ := wantEncode(l); encoding != s {
		return nil, api.ErrDecode
	}
	return l, api.OK
}

package dictcol

import (
	"encoding/binary"
	"math/bits"
	"slices"
	"strings"

	"lookout/api"
)

// plain returns the encodings of numbers, one after the other. The standard library has the same ones.
func plain(l ...int) string {
	var b []byte
	for _, n := range l {
		b = binary.AppendUvarint(b, uint64(n))
	}
	return string(b)
}

// wantDictionary is what the dictionary of a column must be.
func wantDictionary(l []string) []string {
	var d []string
	for _, x := range l {
		if i, is := slices.BinarySearch(d, x); !is {
			d = slices.Insert(d, i, x)
		}
	}
	return d
}

// wantParts is what an encoding must consist of: the two numbers and the dictionary, and the runs.
func wantParts(l []string) (string, string) {
	d := wantDictionary(l)
	var first, runs strings.Builder
	first.WriteString(plain(len(l), len(d)))
	for i, x := range d {
		shared := 0
		for i > 0 && shared < len(d[i-1]) && strings.HasPrefix(x, d[i-1][:shared+1]) {
			shared++
		}
		first.WriteString(plain(shared, len(x)-shared) + x[shared:])
	}
	for rest := l; len(rest) > 0; {
		more := 0
		for more+1 < len(rest) && rest[more+1] == rest[0] {
			more++
		}
		runs.WriteString(plain(slices.Index(d, rest[0]), more))
		rest = rest[more+1:]
	}
	return first.String(), runs.String()
}

// wantEncode is what encoding must return.
func wantEncode(l []string) (string, api.Errno) {
	if len(l) > 2000 {
		return "", api.ErrLimit
	}
	for _, x := range l {
		if len(x) > 1000 {
			return "", api.ErrLimit
		}
	}
	first, runs := wantParts(l)
	if len(first+runs) > 1<<20 {
		return "", api.ErrLimit
	}
	return first + runs, api.OK
}

// cut returns the number with whose encoding s begins, and what follows; -1 if there is none, or not in as few bytes as possible.
func cut(s string) (int, string) {
	n, size := binary.Uvarint([]byte(s))
	if size <= 0 || n > 1<<60 || size != max(1, (bits.Len64(n)+6)/7) {
		return -1, ""
	}
	return int(n), s[size:]
}

// wantDecode is what decoding must return. It does not encode again, but tests each condition where it can be broken first.
func wantDecode(s string) ([]string, bool) {
	count, rest := cut(s)
	size, rest := cut(rest)
	if len(s) > 1<<20 || count < 0 || count > 2000 || size < 0 || size > count {
		return nil, false
	}
	var d []string
	for i := range size {
		shared, afterShared := cut(rest)
		added, afterAdded := cut(afterShared)
		before := ""
		if i > 0 {
			before = d[i-1]
		}
		if shared < 0 || added < 0 || shared > len(before) || added > len(afterAdded) || shared+added > 1000 {
			return nil, false
		}
		x := before[:shared] + afterAdded[:added]
		isAscending := i == 0 || x > before
		isLongest := shared == len(x) || shared == len(before) || x[shared] != before[shared]
		if !isAscending || !isLongest {
			return nil, false
		}
		d, rest = append(d, x), afterAdded[added:]
	}
	return wantRuns(rest, count, d)
}

// wantRuns is what must be decoded from the runs of a column.
func wantRuns(s string, count int, d []string) ([]string, bool) {
	var l []string
	used := make([]bool, len(d))
	last := -1
	for len(l) < count {
		index, afterIndex := cut(s)
		more, afterMore := cut(afterIndex)
		if index < 0 || index >= len(d) || index == last || more < 0 || more >= count-len(l) {
			return nil, false
		}
		for range more + 1 {
			l = append(l, d[index])
		}
		used[index], last, s = true, index, afterMore
	}
	return l, s == "" && !slices.Contains(used, false)
}

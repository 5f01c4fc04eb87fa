package dictcol

import (
	"slices"

	"lookout/api"
	"lookout/varint"
)

// A reader reads the parts of an encoding in order. It makes some column of any string, and of an encoding the one that is encoded, so that encoding the result again tells which it was. The bounds of its numbers only keep the column from getting too long.
type reader struct {
	rest string // what has not been read
}

// column reads a column.
func (r *reader) column() []string {
	n := r.upTo(api.MaxSamples)
	return r.runs(n, r.dictionary(n))
}

// dictionary reads the dictionary of a column of n strings.
func (r *reader) dictionary(n int) []string {
	var d []string
	before := ""
	for range r.upTo(n) {
		before = r.stringAfter(before)
		d = append(d, before)
	}
	return d
}

// stringAfter reads the string that follows another one in a dictionary.
func (r *reader) stringAfter(before string) string {
	shared := r.upTo(len(before))
	size := r.upTo(api.MaxLine - shared)
	return before[:shared] + r.bytes(size)
}

// runs reads the runs of a column of n strings that are in a dictionary.
func (r *reader) runs(n int, d []string) []string {
	var l []string
	for len(d) > 0 && len(l) < n {
		i := r.upTo(len(d) - 1)
		missing := n - len(l)
		length := r.upTo(missing-1) + 1
		l = append(l, slices.Repeat(d[i:i+1], length)...)
	}
	return l
}

// upTo reads a number that is not greater than most. If there is none, it reads nothing, and returns 0.
func (r *reader) upTo(most int) int {
	n, size, e := varint.Read(r.rest)
	if e != api.OK || n > most {
		return 0
	}
	r.rest = r.rest[size:]
	return n
}

// bytes reads the given number of bytes, or all if there are not so many.
func (r *reader) bytes(size int) string {
	b := r.rest[:min(size, len(r.rest))]
	r.rest = r.rest[len(b):]
	return b
}

package deltacol

import (
	"lookout/api"
	"lookout/varint"
)

// decode returns the column that a method of the reader reads, if its encoding is all that the reader had.
func decode(r *reader, elements func(int) ([]int, api.Errno), inverse func([]int) (string, api.Errno)) ([]int, api.Errno) {
	s := r.rest
	n, e := r.count()
	if e != api.OK {
		return nil, e
	}
	l, e := elements(n)
	if e != api.OK {
		return nil, e
	}
	// This finds all that is wrong at the end: bytes that are left, runs that are not the longest ones, and numbers that may not be in a column, also if a sum has wrapped around.
	if again, _ := inverse(l); again != s {
		return nil, api.ErrDecode
	}
	return l, api.OK
}

// A reader reads the numbers of an encoding in order.
type reader struct {
	rest string // what has not been read
}

// next reads a number with a function of layer 1.
func (r *reader) next(read func(string) (int, int, api.Errno)) (int, api.Errno) {
	n, size, e := read(r.rest)
	r.rest = r.rest[size:]
	return n, e
}

// count reads the number of elements of a column.
func (r *reader) count() (int, api.Errno) {
	n, e := r.next(varint.Read)
	if n > maxElements {
		return 0, api.ErrLimit
	}
	return n, e
}

// times reads n times.
func (r *reader) times(n int) ([]int, api.Errno) {
	return r.column(n, r.values)
}

// values reads n values.
func (r *reader) values(n int) ([]int, api.Errno) {
	return r.column(n, r.runs)
}

// column reads n numbers: the first one, if there is one, and with the function the differences of neighbours.
func (r *reader) column(n int, steps func(int) ([]int, api.Errno)) ([]int, api.Errno) {
	if n == 0 {
		return nil, api.OK
	}
	first, e := r.next(varint.ReadSigned)
	if e != api.OK {
		return nil, e
	}
	l, e := steps(n - 1)
	if e != api.OK {
		return nil, e
	}
	return sums(first, l), api.OK
}

// runs reads n numbers as runs.
func (r *reader) runs(n int) ([]int, api.Errno) {
	var l []int
	for len(l) < n {
		x, e := r.next(varint.ReadSigned)
		if e != api.OK {
			return nil, e
		}
		length, e := r.next(varint.Read)
		if e != api.OK {
			return nil, e
		}
		if length == 0 || length > n-len(l) {
			return nil, api.ErrDecode
		}
		for range length {
			l = append(l, x)
		}
	}
	return l, api.OK
}

// sums returns the list that begins with first and whose neighbours have the given differences.
func sums(first int, steps []int) []int {
	l := []int{first}
	for i, step := range steps {
		l = append(l, l[i]+step)
	}
	return l
}

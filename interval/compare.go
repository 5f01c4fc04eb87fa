package interval

import (
	"lookout/api"
	"lookout/ratio"
)

// What a comparison of two intervals returns.
const (
	never     = 0  // false for each element of one with each element of the other
	always    = 1  // true for all these pairs
	undecided = -1 // true for some of them
)

type comparison func(x, y api.Interval) int

// Compare decides a comparison: 1 yes, 0 no, -1 not decided.
func Compare(op int, x, y api.Interval) int {
	compare, ok := comparisons()[op]
	if !ok || !valid(x, y) {
		return undecided
	}
	return compare(x, y)
}

// comparisons returns those of the operators, for valid intervals. All of them are made of two, so that no two of them contradict each other.
func comparisons() map[int]comparison {
	return map[int]comparison{
		api.EqualOp:        equal,
		api.NotEqualOp:     opposite(equal),
		api.LessOp:         less,
		api.LessEqualOp:    opposite(exchanged(less)),
		api.GreaterOp:      exchanged(less),
		api.GreaterEqualOp: opposite(less),
	}
}

func equal(x, y api.Interval) int {
	switch {
	case x == y && x.Lo == x.Hi:
		return always
	case less(x, y) == always || less(y, x) == always:
		return never
	}
	return undecided
}

func less(x, y api.Interval) int {
	switch {
	case ratio.Compare(x.Hi, y.Lo) < 0:
		return always
	case ratio.Compare(x.Lo, y.Hi) >= 0:
		return never
	}
	return undecided
}

// opposite returns the comparison that is true where f is false.
func opposite(f comparison) comparison {
	return func(x, y api.Interval) int {
		switch f(x, y) {
		case always:
			return never
		case never:
			return always
		}
		return undecided
	}
}

// exchanged returns f with its sides exchanged.
func exchanged(f comparison) comparison {
	return func(x, y api.Interval) int {
		return f(y, x)
	}
}

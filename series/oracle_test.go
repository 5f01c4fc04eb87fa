package series

import (
	"maps"
	"slices"

	"lookout/api"
)

// wantCheck is what Check must return.
func wantCheck(kind int, l []api.Sample) api.Errno {
	least, isKind := map[int]int{1: -1 << 40, 2: 0}[kind]
	if !isKind {
		return api.ErrKind
	}
	if len(l) > 2000 {
		return api.ErrLimit
	}
	for i := range l {
		if min(l[i].Time, 1) != 1 || max(l[i].Time, 1<<40) != 1<<40 || min(l[i].Value, least) != least || max(l[i].Value, 1<<40) != 1<<40 {
			return api.ErrRange
		}
		if i > 0 && !(l[i-1].Time < l[i].Time) {
			return api.ErrOrder
		}
	}
	return api.OK
}

// valuesOf returns the values of samples by their times.
func valuesOf(l []api.Sample) map[int]int {
	values := map[int]int{}
	for _, x := range l {
		values[x.Time] = x.Value
	}
	return values
}

// inOrder returns the samples with values by their times.
func inOrder(values map[int]int) []api.Sample {
	var l []api.Sample
	for _, time := range slices.Sorted(maps.Keys(values)) {
		l = append(l, api.Sample{Time: time, Value: values[time]})
	}
	return l
}

// wantInsert is what Insert must return.
func wantInsert(l []api.Sample, x api.Sample) ([]api.Sample, api.Errno) {
	if wantCheck(1, l) != api.OK {
		return nil, api.ErrArgument
	}
	if wantCheck(1, []api.Sample{x}) != api.OK {
		return nil, api.ErrRange
	}
	values := valuesOf(l)
	value, has := values[x.Time]
	if has && value == x.Value {
		return nil, api.ErrExists
	}
	if has {
		return nil, api.ErrConflict
	}
	if len(l) == 2000 {
		return nil, api.ErrLimit
	}
	values[x.Time] = x.Value
	return inOrder(values), api.OK
}

// wantRemove is what Remove must return.
func wantRemove(l []api.Sample, time int) ([]api.Sample, api.Errno) {
	if wantCheck(1, l) != api.OK {
		return nil, api.ErrArgument
	}
	values := valuesOf(l)
	if _, has := values[time]; !has {
		return nil, api.ErrNotFound
	}
	delete(values, time)
	return inOrder(values), api.OK
}

// wantSlice is what Slice must return.
func wantSlice(l []api.Sample, from, to int) []api.Sample {
	return slices.DeleteFunc(slices.Clone(l), func(x api.Sample) bool { return x.Time <= from || x.Time > to })
}

// wantMerge is what Merge must return.
func wantMerge(a, b []api.Sample) ([]api.Sample, api.Errno) {
	if wantCheck(1, a) != api.OK || wantCheck(1, b) != api.OK {
		return nil, api.ErrArgument
	}
	values := valuesOf(a)
	for _, x := range b {
		if value, has := values[x.Time]; has && value != x.Value {
			return nil, api.ErrConflict
		}
		values[x.Time] = x.Value
	}
	if len(values) > 2000 {
		return nil, api.ErrLimit
	}
	return inOrder(values), api.OK
}

// wantIncrease returns what Increase and Resets must return: the last value less the first one, and what was counted before each reset.
func wantIncrease(l []api.Sample) (int, int) {
	if wantCheck(2, l) != api.OK || len(l) == 0 {
		return 0, 0
	}
	increase, resets := l[len(l)-1].Value-l[0].Value, 0
	for i := range len(l) - 1 {
		if l[i].Value > l[i+1].Value {
			increase += l[i].Value
			resets++
		}
	}
	return increase, resets
}

package series

import (
	"math"
	"math/rand"
	"slices"
	"testing"

	"lookout/api"
)

const (
	mostTime  = 1 << 40
	mostValue = 1 << 40
)

// at returns a sample.
func at(time, value int) api.Sample {
	return api.Sample{Time: time, Value: value}
}

// list returns the samples with some times and values.
func list(l ...int) []api.Sample {
	var samples []api.Sample
	for pair := range slices.Chunk(l, 2) {
		samples = append(samples, at(pair[0], pair[1]))
	}
	return samples
}

// every returns n samples with a value, from a time on, with equal distances.
func every(n, from, distance, value int) []api.Sample {
	var l []api.Sample
	for i := range n {
		l = append(l, at(from+i*distance, value))
	}
	return l
}

// tuples returns all lists of at most n elements of a list.
func tuples[E any](elements []E, n int) [][]E {
	all := [][]E{nil}
	if n == 0 {
		return all
	}
	for _, l := range tuples(elements, n-1) {
		for _, x := range elements {
			all = append(all, append(slices.Clip(l), x))
		}
	}
	return all
}

// short returns a list for a message.
func short(l []api.Sample) []api.Sample {
	return l[:min(len(l), 20)]
}

// randomList returns a valid list of at most n samples with values below most. If the times have one value each, lists agree where they have the same times.
func randomList(random *rand.Rand, n, most int, oneEach bool) []api.Sample {
	var l []api.Sample
	time := 0
	for range random.Intn(n + 1) {
		time += 1 + random.Intn(3)
		value := random.Intn(most)
		if oneEach {
			value = time * time % most
		}
		l = append(l, at(time, value))
	}
	return l
}

func checkList(t *testing.T, what string, l []api.Sample, e api.Errno, want []api.Sample, wantError api.Errno, arguments ...any) {
	t.Helper()
	if !slices.Equal(l, want) || e != wantError {
		t.Errorf("%s of %v: %v, error %d instead of %v, error %d", what, arguments, short(l), e, short(want), wantError)
	}
}

// checkAlone checks the functions of a list alone.
func checkAlone(t *testing.T, l []api.Sample) api.Errno {
	t.Helper()
	for _, kind := range []int{math.MinInt, -1, 0, 1, 2, 3, 4, math.MaxInt} {
		if e, want := Check(kind, l), wantCheck(kind, l); e != want {
			t.Errorf("Check of %v, kind %d: error %d instead of %d", short(l), kind, e, want)
		}
	}
	increase, resets := Increase(l), Resets(l)
	if wantedIncrease, wantedResets := wantIncrease(l); increase != wantedIncrease || resets != wantedResets {
		t.Errorf("%v: increase %d, resets %d instead of %d, %d", short(l), increase, resets, wantedIncrease, wantedResets)
	}
	return Check(api.Gauge, l)
}

func checkInsert(t *testing.T, l []api.Sample, x api.Sample) api.Errno {
	t.Helper()
	m, e := Insert(l, x)
	want, wantError := wantInsert(l, x)
	checkList(t, "Insert", m, e, want, wantError, short(l), x)
	return e
}

func checkRemove(t *testing.T, l []api.Sample, time int) api.Errno {
	t.Helper()
	m, e := Remove(l, time)
	want, wantError := wantRemove(l, time)
	checkList(t, "Remove", m, e, want, wantError, short(l), time)
	return e
}

func checkSlice(t *testing.T, l []api.Sample, from, to int) {
	t.Helper()
	checkList(t, "Slice", Slice(l, from, to), api.OK, wantSlice(l, from, to), api.OK, short(l), from, to)
}

func checkMerge(t *testing.T, a, b []api.Sample) api.Errno {
	t.Helper()
	l, e := Merge(a, b)
	want, wantError := wantMerge(a, b)
	checkList(t, "Merge", l, e, want, wantError, short(a), short(b))
	return e
}

// P11.1: what is a valid list, and which error comes first.
func TestCheck(t *testing.T) {
	for _, c := range []struct {
		l              []api.Sample
		gauge, counter api.Errno
	}{
		{nil, api.OK, api.OK}, {list(), api.OK, api.OK}, {[]api.Sample{}, api.OK, api.OK},
		{list(1, 0), api.OK, api.OK}, {list(mostTime, 0), api.OK, api.OK}, {list(1, mostValue, mostTime, mostValue), api.OK, api.OK}, {list(1, -mostValue), api.OK, api.ErrRange}, {list(1, -1), api.OK, api.ErrRange}, {list(1, 5, 2, 3, 3, -1), api.OK, api.ErrRange},
		{list(0, 0), api.ErrRange, api.ErrRange}, {list(-1, 0), api.ErrRange, api.ErrRange}, {list(math.MinInt, 0), api.ErrRange, api.ErrRange}, {list(mostTime+1, 0), api.ErrRange, api.ErrRange}, {list(math.MaxInt, 0), api.ErrRange, api.ErrRange},
		{list(1, mostValue+1), api.ErrRange, api.ErrRange}, {list(1, -mostValue-1), api.ErrRange, api.ErrRange}, {list(1, math.MaxInt), api.ErrRange, api.ErrRange}, {list(1, math.MinInt), api.ErrRange, api.ErrRange},
		{list(1, 0, 1, 0), api.ErrOrder, api.ErrOrder}, {list(1, 0, 1, 5), api.ErrOrder, api.ErrOrder}, {list(2, 0, 1, 0), api.ErrOrder, api.ErrOrder}, {list(1, 0, 3, 0, 2, 0), api.ErrOrder, api.ErrOrder}, {list(mostTime, 0, mostTime, 0), api.ErrOrder, api.ErrOrder},
		{list(2, 0, 0, 0), api.ErrRange, api.ErrRange}, {list(2, 0, 2, mostValue+1), api.ErrRange, api.ErrRange}, {list(2, 0, 2, -1), api.ErrOrder, api.ErrRange}, {list(2, 0, 1, 0, 0, 0), api.ErrOrder, api.ErrOrder}, {list(2, 0, 0, 0, 1, 0), api.ErrRange, api.ErrRange}, {list(3, -1, 2, 0), api.ErrOrder, api.ErrRange}, {list(3, 0, 2, 0, 4, -1), api.ErrOrder, api.ErrOrder},
		{every(2000, 1, 1, 7), api.OK, api.OK}, {every(2000, mostTime-1999, 1, mostValue), api.OK, api.OK}, {every(2000, mostTime-1998, 1, 0), api.ErrRange, api.ErrRange}, {every(2001, 1, 1, 7), api.ErrLimit, api.ErrLimit}, {every(2001, 0, 0, -1), api.ErrLimit, api.ErrLimit}, {every(2000, 1, 0, 0), api.ErrOrder, api.ErrOrder}, {every(2000, 2000, -1, -1), api.ErrOrder, api.ErrRange}, {every(2000, 0, 1, 0), api.ErrRange, api.ErrRange},
	} {
		if e := Check(1, c.l); e != c.gauge {
			t.Errorf("gauge %v: error %d instead of %d", short(c.l), e, c.gauge)
		}
		if e := Check(2, c.l); e != c.counter {
			t.Errorf("counter %v: error %d instead of %d", short(c.l), e, c.counter)
		}
		for _, kind := range []int{math.MinInt, -1, 0, 3, 4, math.MaxInt} {
			if e := Check(kind, c.l); e != api.ErrKind {
				t.Errorf("kind %d, %v: error %d", kind, short(c.l), e)
			}
		}
	}
}

// P11.1: which error of Insert comes first.
func TestInsert(t *testing.T) {
	full, l := every(2000, 2, 2, 7), list(2, 5, 4, 6)
	for _, c := range []struct {
		l    []api.Sample
		x    api.Sample
		want []api.Sample
		e    api.Errno
	}{
		{nil, at(1, 0), list(1, 0), api.OK}, {nil, at(mostTime, -mostValue), list(mostTime, -mostValue), api.OK}, {l, at(1, 9), list(1, 9, 2, 5, 4, 6), api.OK}, {l, at(3, 9), list(2, 5, 3, 9, 4, 6), api.OK}, {l, at(5, mostValue), list(2, 5, 4, 6, 5, mostValue), api.OK}, {l, at(3, 5), list(2, 5, 3, 5, 4, 6), api.OK}, {l, at(3, -1), list(2, 5, 3, -1, 4, 6), api.OK},
		{l, at(2, 5), nil, api.ErrExists}, {l, at(4, 6), nil, api.ErrExists}, {l, at(2, 6), nil, api.ErrConflict}, {l, at(4, 5), nil, api.ErrConflict}, {l, at(4, -6), nil, api.ErrConflict},
		{l, at(0, 5), nil, api.ErrRange}, {l, at(mostTime+1, 5), nil, api.ErrRange}, {l, at(2, mostValue+1), nil, api.ErrRange}, {l, at(4, -mostValue-1), nil, api.ErrRange}, {nil, at(math.MinInt, math.MaxInt), nil, api.ErrRange},
		{list(2, 1, 1, 1), at(3, 1), nil, api.ErrArgument}, {list(0, 1), at(0, 1), nil, api.ErrArgument}, {list(2, 1, 2, 1), at(2, 1), nil, api.ErrArgument}, {list(1, mostValue+1), at(0, 0), nil, api.ErrArgument}, {every(2001, 1, 1, 0), at(1, 0), nil, api.ErrArgument},
		{full, at(2, 7), nil, api.ErrExists}, {full, at(4000, 7), nil, api.ErrExists}, {full, at(2, 8), nil, api.ErrConflict}, {full, at(4000, 8), nil, api.ErrConflict}, {full, at(0, 7), nil, api.ErrRange}, {full, at(3, 7), nil, api.ErrLimit}, {full, at(1, 7), nil, api.ErrLimit}, {full, at(4001, 7), nil, api.ErrLimit},
		{full[1:], at(2, 7), full, api.OK}, {full[:1999], at(4000, 7), full, api.OK}, {every(1999, 4, 2, 7), at(2, 7), full, api.OK},
	} {
		m, e := Insert(c.l, c.x)
		checkList(t, "Insert", m, e, c.want, c.e, short(c.l), c.x)
		checkInsert(t, c.l, c.x)
	}
}

// P11.1
func TestRemove(t *testing.T) {
	full, l := every(2000, 2, 2, 7), list(2, 5, 4, 6, 9, -1)
	for _, c := range []struct {
		l    []api.Sample
		time int
		want []api.Sample
		e    api.Errno
	}{
		{l, 2, list(4, 6, 9, -1), api.OK}, {l, 4, list(2, 5, 9, -1), api.OK}, {l, 9, list(2, 5, 4, 6), api.OK}, {list(1, 5), 1, nil, api.OK}, {list(mostTime, 5), mostTime, nil, api.OK}, {full, 2, full[1:], api.OK}, {full, 4000, full[:1999], api.OK},
		{nil, 1, nil, api.ErrNotFound}, {l, 1, nil, api.ErrNotFound}, {l, 3, nil, api.ErrNotFound}, {l, 10, nil, api.ErrNotFound}, {l, 0, nil, api.ErrNotFound}, {l, math.MinInt, nil, api.ErrNotFound}, {l, math.MaxInt, nil, api.ErrNotFound}, {full, 3, nil, api.ErrNotFound},
		{list(2, 1, 1, 1), 2, nil, api.ErrArgument}, {list(0, 1), 0, nil, api.ErrArgument}, {list(1, 1, 1, 1), 1, nil, api.ErrArgument}, {list(1, -mostValue-1), 1, nil, api.ErrArgument}, {list(0, 1), 5, nil, api.ErrArgument}, {every(2001, 1, 1, 0), 1, nil, api.ErrArgument},
	} {
		m, e := Remove(c.l, c.time)
		checkList(t, "Remove", m, e, c.want, c.e, short(c.l), c.time)
		checkRemove(t, c.l, c.time)
	}
}

// P11.1: parts of lists, valid or not.
func TestSlice(t *testing.T) {
	l, other := list(2, 5, 4, 6, 9, -1), list(5, 1, 2, 2, 5, 1, -3, 4, 2, mostValue+1, math.MaxInt, 5, math.MinInt, 6)
	for _, c := range []struct {
		l        []api.Sample
		from, to int
		want     []api.Sample
	}{
		{nil, 0, 9, nil}, {l, 0, 9, l}, {l, 1, 10, l}, {l, math.MinInt, math.MaxInt, l}, {l, 2, 9, l[1:]}, {l, 1, 2, l[:1]}, {l, 2, 4, l[1:2]}, {l, 2, 8, l[1:2]}, {l, 3, 4, l[1:2]}, {l, 8, 9, l[2:]}, {l, 0, 8, l[:2]},
		{l, 4, 8, nil}, {l, 4, 4, nil}, {l, 9, 99, nil}, {l, -9, 1, nil}, {l, 9, 0, nil}, {l, 4, 2, nil}, {l, math.MaxInt, math.MinInt, nil},
		{other, 1, 5, list(5, 1, 2, 2, 5, 1, 2, mostValue+1)}, {other, 2, 5, list(5, 1, 5, 1)}, {other, -4, 2, list(2, 2, -3, 4, 2, mostValue+1)}, {other, 5, math.MaxInt, list(math.MaxInt, 5)}, {other, math.MinInt, -3, list(-3, 4)}, {other, math.MinInt, math.MinInt, nil},
		{every(3000, 1, 1, 5), 0, 3000, every(3000, 1, 1, 5)}, {every(3000, 1, 1, 5), 2990, 3000, every(10, 2991, 1, 5)},
	} {
		checkList(t, "Slice", Slice(c.l, c.from, c.to), api.OK, c.want, api.OK, short(c.l), c.from, c.to)
		checkSlice(t, c.l, c.from, c.to)
	}
}

// P11.1: which error of Merge comes first.
func TestMerge(t *testing.T) {
	full, l := every(2000, 2, 2, 7), list(2, 5, 4, 6)
	for _, c := range []struct {
		a, b, want []api.Sample
		e          api.Errno
	}{
		{nil, nil, nil, api.OK}, {l, nil, l, api.OK}, {nil, l, l, api.OK}, {l, l, l, api.OK}, {list(1, 1, 3, 3), list(2, 2, 3, 3, 4, 4), list(1, 1, 2, 2, 3, 3, 4, 4), api.OK}, {list(1, 5), list(2, 5), list(1, 5, 2, 5), api.OK}, {list(5, 1, 6, -1), list(1, 1, 2, 1), list(1, 1, 2, 1, 5, 1, 6, -1), api.OK}, {list(1, mostValue), list(mostTime, -mostValue), list(1, mostValue, mostTime, -mostValue), api.OK},
		{l, list(2, 4), nil, api.ErrConflict}, {l, list(2, 6), nil, api.ErrConflict}, {l, list(4, 5), nil, api.ErrConflict}, {l, list(1, 1, 2, 5, 4, -6), nil, api.ErrConflict}, {list(2, 5, 3, 1), list(2, 5, 3, 2), nil, api.ErrConflict},
		{list(0, 1), l, nil, api.ErrArgument}, {l, list(0, 1), nil, api.ErrArgument}, {l, list(2, 4, 1, 1), nil, api.ErrArgument}, {list(4, 6, 2, 4), l, nil, api.ErrArgument}, {list(1, 1, 1, 1), nil, nil, api.ErrArgument}, {nil, list(1, mostValue+1), nil, api.ErrArgument}, {every(2001, 1, 1, 7), nil, nil, api.ErrArgument}, {full, every(2001, 1, 1, 7), nil, api.ErrArgument},
		{full, full, full, api.OK}, {full, nil, full, api.OK}, {full[:1000], full[1000:], full, api.OK}, {full[500:], full[:1500], full, api.OK}, {full[1:], list(2, 7), full, api.OK},
		{full, list(3, 7), nil, api.ErrLimit}, {list(1, 7), full, nil, api.ErrLimit}, {full[1:], list(1, 7, 3, 7), nil, api.ErrLimit}, {full, every(2000, 1, 2, 7), nil, api.ErrLimit}, {every(2000, 1, 1, 7), every(2000, 2, 1, 7), nil, api.ErrLimit},
		{full, list(1, 7, 2, 8), nil, api.ErrConflict}, {list(1, 7, 4000, 8), full, nil, api.ErrConflict}, {full, every(2000, 4000, 2, 8), nil, api.ErrConflict}, {every(2000, 4000, 2, 8), full, nil, api.ErrConflict},
	} {
		m, e := Merge(c.a, c.b)
		checkList(t, "Merge", m, e, c.want, c.e, short(c.a), short(c.b))
		checkMerge(t, c.a, c.b)
	}
}

// P11.1
func TestIncrease(t *testing.T) {
	var sawteeth []api.Sample
	for i := range 2000 {
		sawteeth = append(sawteeth, at(i+1, i%2*mostValue))
	}
	for _, c := range []struct {
		l                []api.Sample
		increase, resets int
	}{
		{nil, 0, 0}, {list(1, 9), 0, 0}, {list(1, 5, 2, 8, 3, 2, 4, 4), 7, 1}, {list(1000, 5, 2000, 8), 3, 0}, {list(1, 5, 2, 5), 0, 0}, {list(1, 5, 2, 0), 0, 1}, {list(1, 0, 2, 0, 3, 0), 0, 0}, {list(1, 5, 2, 4, 3, 3), 7, 2}, {list(1, 5, 2, 4), 4, 1}, {list(1, 4, 2, 5), 1, 0}, {list(1, 3, 2, 0, 3, 3), 3, 1}, {list(1, 0, 9, mostValue, mostTime, mostValue-1), 2*mostValue - 1, 1},
		{sawteeth, 1000 * mostValue, 999}, {sawteeth[1:], 999 * mostValue, 999}, {every(2000, 1, 1, 5), 0, 0},
		{list(1, -1, 2, 4), 0, 0}, {list(1, 4, 2, -1), 0, 0}, {list(1, 9, 2, 4, 3, -1), 0, 0}, {list(2, 9, 1, 4), 0, 0}, {list(2, 1, 1, 4), 0, 0}, {list(1, 1, 1, 4), 0, 0}, {list(0, 9, 1, 4), 0, 0}, {list(0, 4, 1, 9), 0, 0}, {list(1, 9, mostTime+1, 4), 0, 0}, {list(1, 4, 2, mostValue+1), 0, 0}, {list(1, mostValue+1, 2, 4), 0, 0}, {append(sawteeth, at(2001, 0)), 0, 0},
	} {
		if n := Increase(c.l); n != c.increase {
			t.Errorf("increase of %v: %d instead of %d", short(c.l), n, c.increase)
		}
		if n := Resets(c.l); n != c.resets {
			t.Errorf("resets of %v: %d instead of %d", short(c.l), n, c.resets)
		}
		checkAlone(t, c.l)
	}
}

// edges returns samples with times and values in and out of their ranges.
func edges() []api.Sample {
	return list(1, 0, 1, 7, 2, 0, 2, 3, 2, -1, 3, mostValue, 3, mostValue+1, 4, -mostValue, 4, -mostValue-1, 0, 3, -5, 3, mostTime, 2, mostTime+1, 2, math.MaxInt, math.MaxInt, math.MinInt, math.MinInt)
}

// P11.1: all short lists of some samples.
func TestShortLists(t *testing.T) {
	times := []int{math.MinInt, -5, 0, 1, 2, 3, mostTime, mostTime + 1, math.MaxInt}
	counts := map[api.Errno]int{}
	for _, l := range tuples(edges(), 3) {
		counts[checkAlone(t, l)]++
		for _, x := range edges() {
			counts[checkInsert(t, l, x)]++
		}
		for i, time := range times {
			counts[checkRemove(t, l, time)]++
			checkSlice(t, l, times[(i*5+3)%9], time)
			checkSlice(t, l, 1, time)
		}
	}
	for _, e := range []api.Errno{api.OK, api.ErrArgument, api.ErrRange, api.ErrExists, api.ErrNotFound, api.ErrOrder, api.ErrConflict} {
		if counts[e] < 100 {
			t.Errorf("error %d: %v", e, counts)
		}
	}
}

// P11.1: all pairs of short lists of some samples.
func TestShortPairs(t *testing.T) {
	lists := tuples(list(1, 0, 1, 7, 2, 0, 2, 3, mostTime, 2, mostTime+1, 2), 3)
	counts := map[api.Errno]int{}
	for _, a := range lists {
		for _, b := range lists {
			counts[checkMerge(t, a, b)]++
		}
	}
	if counts[api.OK] < 100 || counts[api.ErrConflict] < 100 || counts[api.ErrArgument] < 1000 || len(counts) != 3 {
		t.Error(counts)
	}
}

// P11.1: random lists.
func TestRandomLists(t *testing.T) {
	random := rand.New(rand.NewSource(11))
	counts := map[api.Errno]int{}
	for i := range 4000 {
		a, b := randomList(random, 40, 1+i%9, i%3 > 0), randomList(random, 40, 1+i%9, i%3 > 0)
		checkAlone(t, a)
		counts[checkMerge(t, a, b)]++
		for range 5 {
			counts[checkInsert(t, a, at(random.Intn(90), random.Intn(9)))]++
			counts[checkRemove(t, b, random.Intn(90))]++
			checkSlice(t, a, random.Intn(90), random.Intn(90))
		}
	}
	for _, e := range []api.Errno{api.OK, api.ErrRange, api.ErrExists, api.ErrNotFound, api.ErrConflict} {
		if counts[e] < 100 {
			t.Errorf("error %d: %v", e, counts)
		}
	}
}

// P11.1: arguments are not changed, also where there is room behind them, and results are new memory.
func TestMemory(t *testing.T) {
	random := rand.New(rand.NewSource(11))
	pairs := [][2][]api.Sample{{nil, list(1, 1)}, {list(1, 1), nil}, {list(1, 1, 2, 2), list(1, 1, 2, 2)}, {list(3, 1), list(1, 1, 2, 2)}, {list(2, 1, 1, 1), list(3, 1)}, {list(1, 1), list(1, 2)}}
	for i := range 300 {
		pairs = append(pairs, [2][]api.Sample{randomList(random, 9, 5, i%3 > 0), randomList(random, 9, 5, i%3 > 0)})
	}
	for _, pair := range pairs {
		checkMemory(t, pair[0], pair[1])
	}
}

func checkMemory(t *testing.T, a, b []api.Sample) {
	t.Helper()
	behind := list(-7, 1, -8, 2, -9, 3)
	aroundA, aroundB := slices.Concat(a, behind), slices.Concat(b, behind)
	argA, argB := aroundA[:len(a)], aroundB[:len(b)]
	Check(api.Counter, argA)
	Increase(argA)
	Resets(argB)
	results := [][]api.Sample{Slice(argA, 0, mostTime), Slice(argB, 1, 3)}
	for _, f := range []func() ([]api.Sample, api.Errno){
		func() ([]api.Sample, api.Errno) { return Insert(argA, at(1, 9)) },
		func() ([]api.Sample, api.Errno) { return Insert(argA, at(4, 9)) },
		func() ([]api.Sample, api.Errno) { return Insert(argA, at(99, 9)) },
		func() ([]api.Sample, api.Errno) { return Remove(argA, 1) },
		func() ([]api.Sample, api.Errno) { return Remove(argA, 2) },
		func() ([]api.Sample, api.Errno) { return Remove(argB, 3) },
		func() ([]api.Sample, api.Errno) { return Merge(argA, argB) },
		func() ([]api.Sample, api.Errno) { return Merge(argA, argA) },
		func() ([]api.Sample, api.Errno) { return Merge(argA, nil) },
		func() ([]api.Sample, api.Errno) { return Merge(nil, argA) },
	} {
		l, _ := f()
		results = append(results, l)
	}
	for _, l := range results {
		for i := range l[:cap(l)] {
			l[:cap(l)][i] = at(-5, -5)
		}
	}
	if !slices.Equal(aroundA, slices.Concat(a, behind)) || !slices.Equal(aroundB, slices.Concat(b, behind)) {
		t.Errorf("%v and %v became %v and %v", a, b, aroundA, aroundB)
	}
}

// samplesOf returns a list of arbitrary samples that two bytes each stand for; most lists are valid.
func samplesOf(b []byte) []api.Sample {
	var l []api.Sample
	time := 0
	for pair := range slices.Chunk(b, 2) {
		first, last := int(pair[0]), int(pair[len(pair)-1])
		switch {
		case first < 200:
			time += first%8 + 1
		case first < 240:
			time += 1 << (first - 200)
		case first < 250:
			time = mostTime + first - 248
		case first < 252:
			time = math.MinInt
		default:
			time -= last
		}
		value := last % 16
		if last > 240 {
			value = (last - 247) << (last - 206)
		}
		l = append(l, at(time, value))
	}
	return l
}

// P11.1 to P11.5: arbitrary lists, times and values.
func FuzzLists(f *testing.F) {
	f.Add([]byte{0, 5, 0, 8, 0, 2, 0, 4}, []byte{1, 8, 0, 2}, []byte{7, 1}, 2, 8)
	f.Add([]byte{239, 241, 248, 254, 249, 1}, []byte{0, 240, 250, 251, 255, 3}, []byte{}, mostTime, -mostValue)
	f.Fuzz(func(t *testing.T, a, b, c []byte, time, value int) {
		l := [][]api.Sample{samplesOf(a), samplesOf(b), samplesOf(c)}
		for _, x := range l {
			isValid := checkAlone(t, x) == api.OK
			checkInsert(t, x, at(time, value))
			checkRemove(t, x, time)
			checkSlice(t, x, time, value)
			if isValid {
				checkInsertion(t, x, at(time, value), at(value, time))
				checkParts(t, x, time)
				checkIncrease(t, x)
			}
			for _, y := range l {
				checkMerge(t, x, y)
			}
		}
		checkMerging(t, l[0], l[1], l[2])
		checkPartsOfMerged(t, l[0], l[1], time, value)
	})
}

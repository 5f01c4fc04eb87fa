package series

import (
	"math"
	"math/rand"
	"slices"
	"testing"

	"lookout/api"
)

// validLists returns the valid ones among all lists of at most three of some samples.
func validLists(samples []api.Sample) [][]api.Sample {
	return slices.DeleteFunc(tuples(samples, 3), func(l []api.Sample) bool { return wantCheck(1, l) != api.OK })
}

// triples yields valid lists: all of three short ones of some samples, random ones, and long ones that together are too long, or nearly.
func triples(yield func(a, b, c []api.Sample) bool) bool {
	lists := validLists(list(1, 0, 1, 7, 2, 0, 2, -1, mostTime, 2))
	for _, a := range lists {
		for _, b := range lists {
			for _, c := range lists {
				if !yield(a, b, c) {
					return false
				}
			}
		}
	}
	random := rand.New(rand.NewSource(11))
	for i := range 3000 {
		next := func() []api.Sample { return randomList(random, 30, 1+i%9, i%4 > 0) }
		if !yield(next(), next(), next()) {
			return false
		}
	}
	all := every(2001, 1, 1, 7)
	return yield(all[:900], all[800:1500], all[1400:2000]) && yield(all[:900], all[800:1500], all[1400:]) && yield(all[:2000], all[1:], all[5:9]) && yield(all[:2000], all[2000:], list(3, 8))
}

// P11.2: what is inserted is there, the list stays valid, and removing it leads back; two samples can be inserted in either order.
func checkInsertion(t *testing.T, l []api.Sample, x, y api.Sample) bool {
	t.Helper()
	m, e := Insert(l, x)
	if e != api.OK {
		return false
	}
	if len(m) != len(l)+1 || !slices.Contains(m, x) || Check(api.Gauge, m) != api.OK {
		t.Errorf("%v with %v: %v", short(l), x, short(m))
	}
	if back, e := Remove(m, x.Time); !slices.Equal(back, l) || e != api.OK {
		t.Errorf("%v with %v and without: %v, error %d", short(l), x, short(back), e)
	}
	if x.Time == y.Time {
		return true
	}
	both, e := Insert(m, y)
	first, eFirst := Insert(l, y)
	if e != api.OK {
		if eFirst == api.OK {
			first, eFirst = Insert(first, x)
		}
		checkList(t, "both", first, eFirst, nil, e, short(l), x, y)
		return true
	}
	other, eOther := Insert(first, x)
	checkList(t, "both", other, eOther, both, api.OK, short(l), x, y, eFirst)
	return true
}

// inserted returns a list with all samples of another one; some error if they cannot be inserted. What is there already need not be inserted.
func inserted(l, others []api.Sample) ([]api.Sample, api.Errno) {
	for _, x := range others {
		m, e := Insert(l, x)
		if e == api.ErrExists {
			continue
		}
		if e != api.OK {
			return nil, e
		}
		l = m
	}
	return l, api.OK
}

// mergedAll returns the lists merged one after the other.
func mergedAll(first []api.Sample, others ...[]api.Sample) ([]api.Sample, api.Errno) {
	l, e := Merge(first, nil)
	for _, x := range others {
		if e != api.OK {
			return nil, e
		}
		l, e = Merge(l, x)
	}
	return l, e
}

// P11.3: merging is commutative, associative and idempotent, and inserting all samples. If there is no merged list, there is none in any order.
func checkMerging(t *testing.T, a, b, c []api.Sample) bool {
	t.Helper()
	if wantCheck(1, a) != api.OK || wantCheck(1, b) != api.OK || wantCheck(1, c) != api.OK {
		return false
	}
	ab, e := Merge(a, b)
	ba, eOther := Merge(b, a)
	checkList(t, "Merge is commutative", ab, e, ba, eOther, short(a), short(b))
	aa, eSame := Merge(a, a)
	checkList(t, "Merge is idempotent", aa, eSame, a, api.OK, short(a))
	if one, eOne := inserted(a, b); !slices.Equal(one, ab) || (eOne == api.OK) != (e == api.OK) {
		t.Errorf("%v with all samples of %v: %v, error %d, merged %v, error %d", short(a), short(b), short(one), eOne, short(ab), e)
	}
	if again, eAgain := Merge(ab, b); e == api.OK {
		checkList(t, "merged again", again, eAgain, ab, api.OK, short(a), short(b))
	}
	all, eAll := mergedAll(a, b, c)
	for _, l := range [][3][]api.Sample{{a, c, b}, {b, a, c}, {b, c, a}, {c, a, b}, {c, b, a}} {
		if other, e := mergedAll(l[0], l[1], l[2]); !slices.Equal(other, all) || (e == api.OK) != (eAll == api.OK) {
			t.Errorf("%v, %v, %v: %v, error %d, in another order %v, error %d", short(a), short(b), short(c), short(all), eAll, short(other), e)
		}
	}
	return eAll == api.OK
}

// P11.4: a list is its part up to a time and its part after this.
func checkParts(t *testing.T, l []api.Sample, time int) {
	t.Helper()
	first, rest := Slice(l, math.MinInt, time), Slice(l, time, math.MaxInt)
	checkList(t, "parts", slices.Concat(first, rest), api.OK, l, api.OK, short(l), time)
	for _, x := range first {
		if x.Time > time {
			t.Errorf("%v up to %d: %v", short(l), time, short(first))
		}
	}
	merged, e := Merge(rest, first)
	checkList(t, "merged parts", merged, e, l, api.OK, short(l), time)
}

// P11.4: a part of a merged list is the merged list of the parts.
func checkPartsOfMerged(t *testing.T, a, b []api.Sample, from, to int) bool {
	t.Helper()
	merged, e := Merge(a, b)
	if e != api.OK {
		return false
	}
	parts, e := Merge(Slice(a, from, to), Slice(b, from, to))
	checkList(t, "merged parts", parts, e, Slice(merged, from, to), api.OK, short(a), short(b), from, to)
	return true
}

// P11.5: the increase of a valid list.
func checkIncrease(t *testing.T, l []api.Sample) bool {
	t.Helper()
	if len(l) == 0 || Check(api.Counter, l) != api.OK {
		return false
	}
	increase, resets, difference := Increase(l), Resets(l), l[len(l)-1].Value-l[0].Value
	if increase < difference || increase < 0 || resets == 0 && increase != difference || resets < 0 || resets >= len(l) {
		t.Errorf("%v: increase %d, resets %d, but the values differ by %d", short(l), increase, resets, difference)
	}
	for i := range l {
		if first, rest := Increase(l[:i+1]), Increase(l[i:]); first+rest != increase {
			t.Errorf("%v: increase %d, but %d up to %v, and %d from this on", short(l), increase, first, l[i], rest)
		}
		if first, rest := Resets(l[:i+1]), Resets(l[i:]); first+rest != resets {
			t.Errorf("%v: %d resets, but %d up to %v, and %d from this on", short(l), resets, first, l[i], rest)
		}
		if i == 0 || i == len(l)-1 || l[i].Value < l[i-1].Value || l[i].Value > l[i+1].Value {
			continue
		}
		without, _ := Remove(l, l[i].Time)
		if Increase(without) != increase || Resets(without) != resets {
			t.Errorf("%v: increase %d, without %v %d", short(l), increase, l[i], Increase(without))
		}
	}
	return true
}

// P11.2
func TestInsertion(t *testing.T) {
	samples := list(1, 0, 1, 7, 2, 3, 2, -mostValue, 3, mostValue, 9, 1, mostTime, 2, 0, 1, mostTime+1, 1)
	count := 0
	for _, l := range validLists(samples) {
		for _, x := range samples {
			for _, y := range samples {
				if checkInsertion(t, l, x, y) {
					count++
				}
			}
		}
	}
	full := every(2000, 2, 2, 7)
	for _, l := range [][]api.Sample{full, full[1:], full[:1998], full[7:1999]} {
		for _, x := range list(1, 7, 2, 7, 4, 7, 1001, 7, 4000, 7, 4001, 8) {
			for _, y := range list(3, 7, 2, 7, 3998, 8, 4000, 7) {
				if checkInsertion(t, l, x, y) {
					count++
				}
			}
		}
	}
	if count < 1500 {
		t.Errorf("only %d insertions", count)
	}
}

// P11.3
func TestMerging(t *testing.T) {
	can, cannot := 0, 0
	triples(func(a, b, c []api.Sample) bool {
		if checkMerging(t, a, b, c) {
			can++
		} else {
			cannot++
		}
		return true
	})
	if can < 2000 || cannot < 2000 {
		t.Errorf("%d can be merged, and %d cannot", can, cannot)
	}
}

// P11.4
func TestParts(t *testing.T) {
	times := []int{math.MinInt, -1, 0, 1, 2, 3, 7, 20, 1000, mostTime - 1, mostTime, math.MaxInt}
	count := 0
	triples(func(a, b, c []api.Sample) bool {
		for i, time := range times {
			checkParts(t, a, time)
			if checkPartsOfMerged(t, b, c, time, times[(i+2)%len(times)]) && checkPartsOfMerged(t, c, a, time, times[(i*7+1)%len(times)]) {
				count++
			}
		}
		return true
	})
	if count < 20000 {
		t.Errorf("only %d parts", count)
	}
}

// P11.5
func TestIncreases(t *testing.T) {
	for _, values := range tuples([]int{0, 1, 2, 5, mostValue}, 5) {
		var l []api.Sample
		for i, value := range values {
			l = append(l, at(3*i+1, value))
		}
		if len(l) > 0 && !checkIncrease(t, l) {
			t.Errorf("%v is not valid", l)
		}
	}
	random := rand.New(rand.NewSource(11))
	for i := range 2000 {
		checkIncrease(t, randomList(random, 30, 1+i%9, false))
	}
	checkIncrease(t, randomList(random, 2000, 1000, false))
}

// P11.5: all pairs of neighbours are yielded; who has seen enough can stop, and begin again.
func TestNeighbours(t *testing.T) {
	for n := range 6 {
		l := every(n, 1, 2, 7)
		walk := neighbours(l)
		for most := range max(n, 1) {
			count := 0
			for before, x := range walk {
				if count == most {
					break
				}
				if before != l[count] || x != l[count+1] {
					t.Errorf("%v: the pair %d is %v and %v", l, count, before, x)
				}
				count++
			}
			if count != most {
				t.Errorf("%v: %d of %d pairs", l, count, most)
			}
		}
		count := 0
		for range walk {
			count++
		}
		if count != max(n-1, 0) {
			t.Errorf("%v: %d pairs", l, count)
		}
	}
}

package deltacol

import (
	"math/rand"
	"slices"
	"testing"

	"lookout/api"
)

// irregularColumn returns a column of n elements whose differences are all kinds of numbers.
func (k kind) irregularColumn(random *rand.Rand, n int) []int {
	var l []int
	next := 0
	for range n {
		step := 1 + random.Intn(1<<random.Intn(25))
		if !k.ascends {
			step = random.Intn(k.most-next+1) - random.Intn(next-k.least+1)
			step >>= random.Intn(60)
		}
		next += step
		l = append(l, next)
	}
	return l
}

// regularColumn returns a column of n elements at equal distances, of which the last one is given.
func regularColumn(n, last, distance int) []int {
	l := make([]int, n)
	for i := range l {
		l[i] = last - (n-1-i)*distance
	}
	return l
}

// randomColumn returns a column of about n elements: regular, irregular, or both in turn.
func (k kind) randomColumn(random *rand.Rand, n int) []int {
	count := random.Intn(2 * n)
	distance := random.Intn(1 << random.Intn(20))
	if k.ascends {
		distance++
	}
	regular := regularColumn(count, mostTime-random.Intn(1000), distance)
	switch random.Intn(3) {
	case 0:
		return regular
	case 1:
		return k.irregularColumn(random, count)
	}
	return slices.DeleteFunc(regular, func(int) bool { return random.Intn(8) == 0 })
}

func (k kind) checkRoundTrip(t *testing.T, l []int) {
	t.Helper()
	s, e := k.encode(l)
	decoded, eOfDecode := k.decode(s)
	if e != api.OK || eOfDecode != api.OK || !slices.Equal(decoded, l) {
		t.Errorf("%s %v: %q, decoded %v, errors %d and %d", k.name, short(l), s, short(decoded), e, eOfDecode)
	}
	if n, e := Count(s); n != len(l) || e != api.OK {
		t.Errorf("%s %v: Count is %d, error %d", k.name, short(l), n, e)
	}
}

// checkCanonical checks that what is decoded from s, if anything, has the encoding s.
func (k kind) checkCanonical(t *testing.T, s string) bool {
	t.Helper()
	l, e := k.decode(s)
	if e != api.OK {
		if len(l) != 0 {
			t.Errorf("%s of %q: %v and error %d", k.name, s, short(l), e)
		}
		return false
	}
	if again, e := k.encode(l); again != s || e != api.OK {
		t.Errorf("%s of %q: %v with the encoding %q, error %d", k.name, s, short(l), again, e)
	}
	return true
}

// P9.2: decoding an encoded column yields the column, and its number of elements is Count; no two columns have the same encoding.
func TestRoundTrips(t *testing.T) {
	random := rand.New(rand.NewSource(9))
	for _, k := range kinds() {
		seen := map[string][]int{}
		for range 3000 {
			l := k.randomColumn(random, 40)
			k.checkRoundTrip(t, l)
			s, _ := k.encode(l)
			if other, is := seen[s]; is && !slices.Equal(other, l) {
				t.Errorf("%s %v and %v have the encoding %q", k.name, l, other, s)
			}
			seen[s] = l
		}
		for _, l := range tuples(list(k.least, k.least+1, 3, 4, 5, 7, k.most-1, k.most), 4) {
			if k.wantCheck(l) == api.OK {
				k.checkRoundTrip(t, l)
			}
		}
	}
}

// P9.3: what can be decoded is the encoding of the result.
func TestCanonical(t *testing.T) {
	random := rand.New(rand.NewSource(9))
	for _, k := range kinds() {
		decoded := 0
		for range 300000 {
			b := make([]byte, 1+random.Intn(9))
			for i := range b {
				b[i] = byte(random.Intn(256)) >> (2 + random.Intn(7))
			}
			if k.checkCanonical(t, string(b)) {
				decoded++
			}
		}
		if decoded < 1000 {
			t.Errorf("only %d strings were decoded as %s", decoded, k.name)
		}
	}
}

// P9.3: a run that is divided makes an encoding invalid.
func TestDividedRuns(t *testing.T) {
	for _, k := range kinds() {
		for n := 2; n < 60; n++ {
			l := regularColumn(n+k.alone, 1000, 3)
			s, _ := k.encode(l)
			begin, number := s[:len(s)-2], s[len(s)-2:len(s)-1]
			if s != begin+number+plain(uint64(n)) {
				t.Fatalf("%s %v: %q", k.name, l, s)
			}
			for part := 1; part < n; part++ {
				divided := begin + number + plain(uint64(part)) + number + plain(uint64(n-part))
				if l, e := k.decode(divided); len(l) != 0 || e != api.ErrDecode {
					t.Errorf("%s of %q: %v, error %d", k.name, divided, l, e)
				}
			}
		}
	}
}

// P9.4: times at equal distances, and equal values, need few bytes.
func TestRegularColumns(t *testing.T) {
	for _, n := range list(0, 1, 2, 3, 10, 127, 128, 129, 130, 5000, 16384, 16385, 16386, 20000) {
		for _, distance := range list(1, 2, 63, 64, 1000, 1<<20, 1<<24) {
			for _, last := range list(mostTime, mostTime-1, mostTime/2+7) {
				l := regularColumn(n, last, distance)
				s, e := EncodeTimes(l)
				if most := 18 + len(signed(append(l, 0)[0])) + len(signed(distance)); e != api.OK || len(s) > most {
					t.Errorf("%d times up to %d, each %d: %d bytes, error %d", n, last, distance, len(s), e)
				}
				times().checkRoundTrip(t, l)
			}
		}
		for _, value := range list(0, -1, 63, 64, 1000, mostTime, mostValue, -mostValue) {
			l := slices.Repeat(list(value), n)
			s, e := EncodeValues(l)
			if most := 18 + len(signed(value)); e != api.OK || len(s) > most {
				t.Errorf("%d times the value %d: %d bytes, error %d", n, value, len(s), e)
			}
			values().checkRoundTrip(t, l)
		}
	}
}

// P9.5: a number that is added to each value changes only the bytes of the first value.
func TestShifts(t *testing.T) {
	random := rand.New(rand.NewSource(9))
	for range 2000 {
		l := values().randomColumn(random, 40)
		if len(l) == 0 {
			continue
		}
		least, most := slices.Min(l), slices.Max(l)
		for _, shift := range list(1, -1, 100, mostValue-most, -mostValue-least, random.Intn(mostValue-most+1)) {
			if least+shift < -mostValue || most+shift > mostValue {
				continue
			}
			var shifted []int
			for _, n := range l {
				shifted = append(shifted, n+shift)
			}
			s, e := EncodeValues(l)
			sOfShifted, eOfShifted := EncodeValues(shifted)
			count := plain(uint64(len(l)))
			before, beforeShifted := count+signed(l[0]), count+signed(shifted[0])
			if e != api.OK || eOfShifted != api.OK || s[:len(before)] != before || sOfShifted != beforeShifted+s[len(before):] {
				t.Errorf("%v with %d added: %q instead of %q, errors %d and %d", short(l), shift, sOfShifted, s, eOfShifted, e)
			}
		}
	}
}

// P9.2: the runs of a list are as long as possible, and together the list; who has seen enough can stop, and begin again.
func TestRuns(t *testing.T) {
	for _, l := range tuples(list(0, 1, -1), 6) {
		walk := runs(l)
		var all []int
		var numbers []int
		for n, length := range walk {
			if length < 1 {
				t.Errorf("%v: a run of the length %d", l, length)
			}
			numbers = append(numbers, n)
			all = append(all, slices.Repeat(list(n), length)...)
		}
		if !slices.Equal(all, l) || len(slices.Compact(slices.Clone(numbers))) != len(numbers) {
			t.Errorf("%v: %v, runs of %v", l, all, numbers)
		}
		for most := range len(numbers) {
			var first []int
			for n := range walk {
				if len(first) == most {
					break
				}
				first = append(first, n)
			}
			if !slices.Equal(first, numbers[:most]) {
				t.Errorf("%v: the first %d runs are %v", l, most, first)
			}
		}
	}
}

package dictcol

import (
	"math/rand"
	"slices"
	"strings"
	"testing"

	"lookout/api"
)

// columns yields columns: all short ones of some strings, random ones, and some of the longest ones.
func columns(yield func(l []string) bool) {
	for _, l := range tuples(list("", "a", "ab", "b", strings.Repeat("x", 1000)), 5) {
		if !yield(l) {
			return
		}
	}
	random := rand.New(rand.NewSource(10))
	for i := range 3000 {
		if !yield(randomColumn(random, 1<<(i%8))) {
			return
		}
	}
	for _, l := range [][]string{differentStrings(2000, 30), slices.Repeat(list("a"), 2000), slices.Repeat(list("b", "", "ab", "b"), 500)} {
		if !yield(l) {
			return
		}
	}
}

// checkColumn checks the laws for a column.
func checkColumn(t *testing.T, l []string) {
	t.Helper()
	checkRoundTrip(t, l)
	checkDistinct(t, l)
	checkSelection(t, l)
	checkEconomy(t, l)
	reversed := slices.Clone(l)
	slices.Reverse(reversed)
	checkOrder(t, l, reversed)
}

// encodingOf returns the encoding of a column.
func encodingOf(t *testing.T, l []string) string {
	t.Helper()
	s, e := Encode(l)
	if e != api.OK {
		t.Errorf("%.60q: error %d", short(l), e)
	}
	return s
}

// P10.2: decoding an encoding yields the column.
func checkRoundTrip(t *testing.T, l []string) {
	t.Helper()
	s := encodingOf(t, l)
	if decoded, e := Decode(s); !slices.Equal(decoded, l) || e != api.OK {
		t.Errorf("%.60q: decoded %.60q, error %d", short(l), short(decoded), e)
	}
}

// P10.2: what is decoded from s, if anything, has the encoding s.
func checkCanonical(t *testing.T, s string) bool {
	t.Helper()
	l, e := Decode(s)
	if e != api.OK {
		return false
	}
	if again := encodingOf(t, l); again != s {
		t.Errorf("%q: %.60q with the encoding %q", shortText(s), short(l), shortText(again))
	}
	return true
}

// P10.3: the dictionary has exactly the strings of the column, strictly ascending.
func checkDistinct(t *testing.T, l []string) {
	t.Helper()
	d, e := Distinct(encodingOf(t, l))
	if e != api.OK {
		t.Errorf("%.60q: error %d", short(l), e)
	}
	for i, x := range d {
		if i > 0 && d[i-1] >= x || !slices.Contains(l, x) {
			t.Errorf("%.60q: %.60q", short(l), short(d))
		}
	}
	for _, x := range l {
		if !slices.Contains(d, x) {
			t.Errorf("%.60q: %.60q", short(l), short(d))
		}
	}
}

// P10.4: Lookup returns the indices of a string, those of all strings are all indices, each once, and At agrees with Decode.
func checkSelection(t *testing.T, l []string) {
	t.Helper()
	s := encodingOf(t, l)
	d, _ := Distinct(s)
	if len(d) > 100 {
		return
	}
	var all []int
	for _, value := range d {
		at, e := Lookup(s, value)
		if e != api.OK || !slices.IsSorted(at) || len(at) == 0 {
			t.Errorf("%.60q: %.60q is at %v, error %d", short(l), value, short(at), e)
		}
		for _, i := range at {
			if l[i] != value {
				t.Errorf("%.60q: %.60q is at %v", short(l), value, short(at))
			}
		}
		all = append(all, at...)
	}
	slices.Sort(all)
	if len(all) != len(l) || len(slices.Compact(all)) != len(l) {
		t.Errorf("%.60q: together %v", short(l), short(all))
	}
	decoded, _ := Decode(s)
	for i := 0; i < len(l); i += 1 + len(l)/20 {
		if x, e := At(s, i); x != decoded[i] || e != api.OK {
			t.Errorf("%.60q: %.60q at %d, error %d", short(l), x, i, e)
		}
	}
}

// P10.5: the last string once more needs at most two bytes.
func checkEconomy(t *testing.T, l []string) {
	t.Helper()
	if len(l) == 0 {
		return
	}
	longer := append(slices.Clone(l), l[len(l)-1])
	s, e := Encode(longer)
	if e == api.ErrLimit {
		return
	}
	if before := encodingOf(t, l); e != api.OK || len(s) < len(before) || len(s) > len(before)+2 {
		t.Errorf("%.60q: %d bytes, with the last string once more %d, error %d", short(l), len(before), len(s), e)
	}
}

// P10.6: the same strings in another order have the same dictionary, in the same bytes.
func checkOrder(t *testing.T, l, other []string) {
	t.Helper()
	s, e := Encode(other)
	if e == api.ErrLimit {
		return
	}
	d, _ := Distinct(encodingOf(t, l))
	dOfOther, eOfOther := Distinct(s)
	if e != api.OK || eOfOther != api.OK || !slices.Equal(d, dOfOther) {
		t.Errorf("%.60q and %.60q: %.60q and %.60q, errors %d and %d", short(l), short(other), short(d), short(dOfOther), e, eOfOther)
	}
	if first, _ := wantParts(l); !strings.HasPrefix(s, first) {
		t.Errorf("%.60q and %.60q: %q does not begin with %q", short(l), short(other), shortText(s), shortText(first))
	}
}

// P10.2: decoding an encoding yields the column, and different columns have different encodings.
func TestRoundTrips(t *testing.T) {
	seen := map[string][]string{}
	for l := range columns {
		checkRoundTrip(t, l)
		s := encodingOf(t, l)
		if other, is := seen[s]; is && !slices.Equal(other, l) {
			t.Errorf("%.60q and %.60q have the encoding %q", short(l), short(other), shortText(s))
		}
		seen[s] = l
	}
	if len(seen) < 5000 {
		t.Errorf("only %d columns", len(seen))
	}
}

// P10.2: whatever can be decoded is the encoding of what is decoded.
func TestCanonical(t *testing.T) {
	random := rand.New(rand.NewSource(10))
	decoded := 0
	for range 1000000 {
		b := make([]byte, 2+random.Intn(10))
		for i := range b {
			b[i] = byte(random.Intn(256)) >> (5 + random.Intn(4))
		}
		if checkCanonical(t, string(b)) {
			decoded++
		}
	}
	if decoded < 1000 {
		t.Errorf("only %d strings were decoded", decoded)
	}
}

// P10.3
func TestDistinct(t *testing.T) {
	for l := range columns {
		checkDistinct(t, l)
	}
}

// P10.4
func TestSelection(t *testing.T) {
	for l := range columns {
		checkSelection(t, l)
	}
}

// P10.4: strings and indices that a column has, and others.
func TestLookupAndAt(t *testing.T) {
	l := list("b", "b", "ab", "abc", "b")
	s := encodingOf(t, l)
	for value, want := range map[string][]int{"b": {0, 1, 4}, "ab": {2}, "abc": {3}, "a": nil, "": nil, "bb": nil, "abcd": nil, "\x00": nil, strings.Repeat("b", 2000): nil} {
		if at, e := Lookup(s, value); !slices.Equal(at, want) || e != api.OK {
			t.Errorf("%.60q: %v, error %d", value, at, e)
		}
	}
	for i := -3; i < 9; i++ {
		want, wantError := "", api.ErrRange
		if i >= 0 && i < len(l) {
			want, wantError = l[i], api.OK
		}
		if x, e := At(s, i); x != want || e != wantError {
			t.Errorf("%d: %q, error %d", i, x, e)
		}
	}
}

// P10.5
func TestEconomy(t *testing.T) {
	for l := range columns {
		checkEconomy(t, l)
	}
	for n := 1; n < 2000; n++ {
		checkEconomy(t, slices.Repeat(list("a"), n))
		checkEconomy(t, append(slices.Repeat(list("b", "ab"), n/5), slices.Repeat(list("a"), n-n/5*2)...))
	}
}

// P10.6
func TestOrder(t *testing.T) {
	random := rand.New(rand.NewSource(10))
	for l := range columns {
		other := slices.Clone(l)
		random.Shuffle(len(other), func(i, j int) { other[i], other[j] = other[j], other[i] })
		checkOrder(t, l, other)
		slices.Sort(other)
		checkOrder(t, l, other)
	}
}

// P10.2: the runs of a list are as long as possible, and together the list; who has seen enough can stop, and begin again.
func TestRuns(t *testing.T) {
	for _, l := range tuples(list("", "a", "b"), 6) {
		walk := runs(l)
		var all, each []string
		for x, length := range walk {
			if length < 1 {
				t.Errorf("%q: a run of the length %d", l, length)
			}
			each = append(each, x)
			all = append(all, slices.Repeat(list(x), length)...)
		}
		if !slices.Equal(all, l) || len(slices.Compact(slices.Clone(each))) != len(each) {
			t.Errorf("%q: %q, runs of %q", l, all, each)
		}
		for most := range len(each) {
			var first []string
			for x := range walk {
				if len(first) == most {
					break
				}
				first = append(first, x)
			}
			if !slices.Equal(first, each[:most]) {
				t.Errorf("%q: the first %d runs are %q", l, most, first)
			}
		}
	}
}

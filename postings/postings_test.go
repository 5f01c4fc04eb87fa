package postings

import (
	"encoding/binary"
	"math"
	"math/rand"
	"slices"
	"strings"
	"testing"

	"lookout/api"
)

func list(l ...int) []int {
	return l
}

// tuples returns all lists of at most n elements of a list.
func tuples[E any](elements []E, n int) [][]E {
	all := [][]E{nil}
	if n == 0 {
		return all
	}
	for _, l := range tuples(elements, n-1) {
		for _, x := range elements {
			all = append(all, append(slices.Clip(l), x))
		}
	}
	return all
}

// subsets returns the lists of some of the numbers of a list.
func subsets(l []int) [][]int {
	all := [][]int{nil}
	for _, n := range l {
		for _, x := range all {
			all = append(all, append(slices.Clip(x), n))
		}
	}
	return all
}

// randomList returns a valid list of about n numbers, with gaps of about the given number, from about the given one on.
func randomList(random *rand.Rand, n, gap, from int) []int {
	var l []int
	next := from + random.Intn(gap)
	for range random.Intn(2*n + 1) {
		if next > api.MaxInt {
			break
		}
		l = append(l, next)
		next += 1 + random.Intn(2*gap-1)
	}
	return l
}

// randomPair returns two valid lists that have much, little or nothing in common, or parts in turn.
func randomPair(random *rand.Rand) ([]int, []int) {
	gap := 1 << random.Intn(8)
	a := randomList(random, 1+random.Intn(60), gap, 0)
	switch random.Intn(4) {
	case 0:
		return a, randomList(random, 1+random.Intn(60), 1<<random.Intn(8), 0)
	case 1:
		return a, randomList(random, 5, gap, 10*gap)
	case 2:
		return a, randomList(random, 20, 1<<random.Intn(58), 0)
	}
	var b []int
	for i, n := range a {
		if random.Intn(4) > 0 {
			b = append(b, n)
		} else if i%2 == 0 {
			b = append(b, n+1)
		}
	}
	return slices.Compact(b), a
}

func checkNumbers(t *testing.T, what string, got, want []int, arguments ...any) {
	t.Helper()
	if !slices.Equal(got, want) {
		t.Errorf("%s%v: %v instead of %v", what, arguments, got, want)
	}
}

func checkSets(t *testing.T, a, b []int) {
	t.Helper()
	and, or, without := wantSets(a, b)
	checkNumbers(t, "And", And(a, b), and, a, b)
	checkNumbers(t, "Or", Or(a, b), or, a, b)
	checkNumbers(t, "Without", Without(a, b), without, a, b)
}

// checkAlone tests the functions of one list.
func checkAlone(t *testing.T, l []int) api.Errno {
	t.Helper()
	e, want := Check(l), wantCheck(l)
	if e != want {
		t.Errorf("Check(%v): error %d instead of %d", l, e, want)
	}
	for _, x := range slices.Concat(l, list(math.MinInt, -1, 0, 1, api.MaxInt, api.MaxInt+1, math.MaxInt)) {
		checkSeek(t, l, x-1)
		checkSeek(t, l, x)
		checkSeek(t, l, x+1)
	}
	s, eOfEncode := Encode(l)
	if wantS, want := wantEncode(l); s != wantS || eOfEncode != want {
		t.Errorf("Encode(%v): %q, error %d instead of %q, error %d", l, s, eOfEncode, wantS, want)
	}
	checkDecode(t, s)
	return e
}

func checkSeek(t *testing.T, l []int, x int) {
	t.Helper()
	if i, want := Seek(l, x), wantSeek(l, x); i != want {
		t.Errorf("Seek(%v, %d): %d instead of %d", l, x, i, want)
	}
}

func checkDecode(t *testing.T, s string) api.Errno {
	t.Helper()
	l, e := Decode(s)
	if want, wantError := wantDecode(s); !slices.Equal(l, want) || e != wantError {
		t.Errorf("Decode(%q): %v, error %d instead of %v, error %d", s, l, e, want, wantError)
	}
	return e
}

// P8.1: valid lists, and for others the error of the first number that has one, ErrRange before ErrOrder.
func TestCheck(t *testing.T) {
	for _, c := range []struct {
		l []int
		e api.Errno
	}{
		{nil, api.OK}, {list(), api.OK}, {list(0), api.OK}, {list(0, 1), api.OK}, {list(api.MaxInt), api.OK}, {list(0, 1, 7, api.MaxInt-1, api.MaxInt), api.OK},
		{list(-1), api.ErrRange}, {list(math.MinInt), api.ErrRange}, {list(api.MaxInt + 1), api.ErrRange}, {list(math.MaxInt), api.ErrRange},
		{list(0, 0), api.ErrOrder}, {list(2, 1), api.ErrOrder}, {list(api.MaxInt, api.MaxInt), api.ErrOrder}, {list(1, 2, 2), api.ErrOrder}, {list(1, 2, 0), api.ErrOrder}, {list(1, 0, 5), api.ErrOrder},
		{list(3, -1), api.ErrRange}, {list(-1, -2), api.ErrRange}, {list(3, 2, -1), api.ErrOrder}, {list(3, -1, 2), api.ErrRange}, {list(3, 3, api.MaxInt+1), api.ErrOrder}, {list(0, api.MaxInt+1, 0), api.ErrRange}, {list(-1, 3, 3), api.ErrRange},
	} {
		if e := Check(c.l); e != c.e || wantCheck(c.l) != c.e {
			t.Errorf("%v: error %d instead of %d", c.l, e, c.e)
		}
	}
}

// edges are numbers within and outside of the range.
var edges = list(math.MinInt, -1, 0, 1, 2, api.MaxInt-1, api.MaxInt, api.MaxInt+1, math.MaxInt)

// P8.1: each function of one list, for all short lists of some numbers.
func TestShortLists(t *testing.T) {
	counts := map[api.Errno]int{}
	for _, l := range tuples(edges, 4) {
		counts[checkAlone(t, l)]++
	}
	if counts[api.OK] != 31 || counts[api.ErrRange] < 1000 || counts[api.ErrOrder] < 1000 {
		t.Errorf("%v", counts)
	}
}

// P8.1, P8.2: each function of two lists, for all pairs of short lists of some numbers, and for all pairs of sets of six.
func TestShortPairs(t *testing.T) {
	short := tuples(edges, 2)
	for _, a := range short {
		for _, b := range short {
			checkSets(t, a, b)
			checkNumbers(t, "Merge", Merge([][]int{a, b}), wantMerge([][]int{a, b}), a, b)
		}
	}
	sets := subsets(list(0, 1, 2, 5, api.MaxInt-1, api.MaxInt))
	for _, a := range sets {
		for _, b := range sets {
			checkSets(t, a, b)
		}
	}
}

// P8.1: no numbers if a list is not valid, wherever it stands and whatever is wrong.
func TestInvalidLists(t *testing.T) {
	valid := list(1, 3, 5)
	for _, bad := range [][]int{list(-1), list(api.MaxInt + 1), list(1, 1), list(1, 3, 5, 4), list(1, 3, 5, 5), list(1, 3, math.MaxInt), list(5, 3, 1)} {
		for _, l := range [][2][]int{{valid, bad}, {bad, valid}, {bad, nil}, {nil, bad}, {bad, bad}} {
			for what, f := range map[string]func(a, b []int) []int{"And": And, "Or": Or, "Without": Without} {
				checkNumbers(t, what, f(l[0], l[1]), nil, l)
			}
		}
		for i := range 8 {
			lists := slices.Repeat([][]int{valid}, 8)
			lists[i] = bad
			checkNumbers(t, "Merge", Merge(lists), nil, lists)
			checkNumbers(t, "Merge", Merge(lists[i:i+1]), nil, bad)
		}
		for x := -2; x < 8; x++ {
			checkSeek(t, bad, x)
		}
		if s, e := Encode(bad); s != "" || e != api.ErrArgument {
			t.Errorf("Encode(%v): %q, error %d", bad, s, e)
		}
	}
}

// P8.2: pairs of long lists.
func TestLongPairs(t *testing.T) {
	random := rand.New(rand.NewSource(8))
	common := 0
	for range 1500 {
		a, b := randomPair(random)
		checkSets(t, a, b)
		checkSets(t, b, a)
		common += len(And(a, b))
	}
	if common < 5000 {
		t.Errorf("only %d common numbers", common)
	}
}

// P8.4: all lists of lists of some, and many long ones.
func TestMerge(t *testing.T) {
	for _, l := range tuples([][]int{nil, list(0), list(2, api.MaxInt), list(1, 2, 3), list(0, 3), list(2, 1)}, 5) {
		checkNumbers(t, "Merge", Merge(l), wantMerge(l), l)
	}
	random := rand.New(rand.NewSource(8))
	for n := range 70 {
		var l [][]int
		for range n {
			a, _ := randomPair(random)
			l = append(l, a)
		}
		checkNumbers(t, "Merge", Merge(l), wantMerge(l), l)
	}
}

// P8.5: positions in long lists.
func TestSeek(t *testing.T) {
	random := rand.New(rand.NewSource(8))
	for range 300 {
		l, _ := randomPair(random)
		checkAlone(t, l)
	}
	for _, c := range []struct{ x, i int }{{math.MinInt, 0}, {-1, 0}, {0, 0}, {10, 0}, {11, 1}, {20, 1}, {21, 2}, {api.MaxInt, 2}, {api.MaxInt + 1, 3}, {math.MaxInt, 3}} {
		if i := Seek(list(10, 20, api.MaxInt), c.x); i != c.i || wantSeek(list(10, 20, api.MaxInt), c.x) != c.i {
			t.Errorf("%d: %d instead of %d", c.x, i, c.i)
		}
	}
}

// bytesOf returns the encodings of numbers, one after the other.
func bytesOf(l ...uint64) string {
	var b []byte
	for _, n := range l {
		b = binary.AppendUvarint(b, n)
	}
	return string(b)
}

// P8.6: encodings that the chapter determines, and what is none.
func TestEncodings(t *testing.T) {
	const most = api.MaxInt
	for _, c := range []struct {
		l []int
		s string
	}{
		{nil, "\x00"}, {list(0), "\x01\x00"}, {list(7), "\x01\x07"}, {list(0, 1), "\x02\x00\x00"}, {list(1, 3, 300), "\x03\x01\x01\xa8\x02"}, {list(127, 255), "\x02\x7f\x7f"}, {list(128, 257), "\x02\x80\x01\x80\x01"},
		{list(most), bytesOf(1, most)}, {list(0, most), bytesOf(2, 0, most-1)}, {list(5, most), bytesOf(2, 5, most-6)}, {list(most-1, most), bytesOf(2, most-1, 0)}, {list(0, most-1, most), bytesOf(3, 0, most-2, 0)},
	} {
		if s, e := Encode(c.l); s != c.s || e != api.OK {
			t.Errorf("Encode(%v): %q, error %d", c.l, s, e)
		}
		if l, e := Decode(c.s); !slices.Equal(l, c.l) || e != api.OK {
			t.Errorf("Decode(%q): %v, error %d", c.s, l, e)
		}
	}
	for _, s := range []string{
		"", "\x01", "\x02\x00", "\x00\x00", "\x01\x00\x00", "\x02\x00\x00\x01", "\x80", "\x80\x00", "\x81\x00\x05", "\x01\x80", "\x01\x80\x00", "\x02\x05", "\x02\x05\x80", "\x02\x05\x85\x00",
		bytesOf(1, most+1), bytesOf(1, 2*most), bytesOf(1, math.MaxInt64), bytesOf(1, math.MaxUint64), bytesOf(2, 0, most), bytesOf(2, 5, most-5), bytesOf(2, most, 0), bytesOf(2, most, most), bytesOf(3, 0, most, 0), bytesOf(3, most-1, 0, 0), bytesOf(2, 0, 2*most), bytesOf(3, 7, 2*most-1, most),
		bytesOf(most), bytesOf(most) + "\x00\x00", bytesOf(most+1) + "\x00", bytesOf(math.MaxUint64), bytesOf(1<<32) + "\x00", bytesOf(20001) + "\x00",
	} {
		if l, e := Decode(s); len(l) != 0 || e != api.ErrDecode {
			t.Errorf("Decode(%q): %v, error %d", s, l, e)
		}
		if _, e := wantDecode(s); e != api.ErrDecode {
			t.Errorf("%q: the test expects error %d", s, e)
		}
	}
}

// P8.1, P8.6: all short strings of some bytes.
func TestShortStrings(t *testing.T) {
	parts := append(strings.Split("\x00\x01\x02\x03\x04\x05\x10\x7f\x80\x81\xff", ""), bytesOf(api.MaxInt), bytesOf(api.MaxInt-1), bytesOf(api.MaxInt+1))
	counts := map[api.Errno]int{}
	for _, l := range tuples(parts, 4) {
		counts[checkDecode(t, strings.Join(l, ""))]++
	}
	if counts[api.OK] < 500 || counts[api.ErrDecode] < 30000 || len(counts) != 2 {
		t.Errorf("%v", counts)
	}
}

// P8.1, P8.6: encodings of which a byte was changed, removed or added.
func TestChangedEncodings(t *testing.T) {
	random := rand.New(rand.NewSource(8))
	counts := map[api.Errno]int{}
	for range 300 {
		l, _ := randomPair(random)
		s, _ := Encode(l)
		for range 20 {
			i := random.Intn(len(s))
			c := string([]byte{byte(random.Intn(256))})
			counts[checkDecode(t, s[:i]+c+s[i+1:])]++
			counts[checkDecode(t, s[:i])]++
			counts[checkDecode(t, s[:i]+c+s[i:])]++
			counts[checkDecode(t, s+c)]++
			counts[checkDecode(t, s[:i]+s[i+1:])]++
		}
	}
	if counts[api.OK] < 1000 || counts[api.ErrDecode] < 10000 {
		t.Errorf("%v", counts)
	}
}

// P8.1: lists that are longer than those that layer 1 encodes; all functions take them.
func TestLargeLists(t *testing.T) {
	var even, all []int
	for n := range 200000 {
		even = append(even, 2*n)
		all = append(all, 2*n, 2*n+1)
	}
	odd := Without(all, even)
	if len(odd) != 200000 || odd[0] != 1 || odd[199999] != 399999 || len(And(even, odd)) != 0 || !slices.Equal(Or(odd, even), all) {
		t.Error("sets")
	}
	if i := Seek(even, 300001); i != 150001 {
		t.Errorf("Seek: %d", i)
	}
	s, e := Encode(even)
	if l, eOfDecode := Decode(s); len(s) != 200003 || e != api.OK || eOfDecode != api.OK || !slices.Equal(l, even) {
		t.Errorf("%d bytes, errors %d and %d", len(s), e, eOfDecode)
	}
	var parts [][]int
	for n := range 4000 {
		parts = append(parts, list(n, n+4000, n+8000))
	}
	if l := Merge(parts); !slices.Equal(l, all[:12000]) {
		t.Errorf("Merge: %d numbers", len(l))
	}
}

// P8.1: arguments are not changed, also where there is room behind them, and results are new memory.
func TestMemory(t *testing.T) {
	random := rand.New(rand.NewSource(8))
	pairs := [][2][]int{{nil, list(1)}, {list(1), nil}, {list(1, 2), list(1, 2)}, {list(3), list(1, 2)}, {list(2, 1), list(3)}}
	for range 200 {
		a, b := randomPair(random)
		pairs = append(pairs, [2][]int{a, b})
	}
	for _, pair := range pairs {
		checkMemory(t, pair[0], pair[1])
	}
}

func checkMemory(t *testing.T, a, b []int) {
	t.Helper()
	behind := list(-7, -8, -9)
	aroundA, aroundB := slices.Concat(a, behind), slices.Concat(b, behind)
	argA, argB := aroundA[:len(a)], aroundB[:len(b)]
	lists := [][]int{argA, argB, argA}
	Check(argA)
	Seek(argA, 5)
	s, _ := Encode(argA)
	first, _ := Decode(s)
	results := [][]int{first, And(argA, argB), And(argA, argA), Or(argA, argB), Or(argA, nil), Or(nil, argA), Without(argA, argB), Without(argA, nil), Merge(lists), Merge(lists[:1]), Merge(lists[1:])}
	for _, l := range results {
		for i := range l[:cap(l)] {
			l[:cap(l)][i] = -5
		}
	}
	if !slices.Equal(aroundA, slices.Concat(a, behind)) || !slices.Equal(aroundB, slices.Concat(b, behind)) {
		t.Errorf("%v and %v became %v and %v", a, b, aroundA, aroundB)
	}
	if len(lists) != 3 || !slices.Equal(lists[0], a) || !slices.Equal(lists[1], b) || !slices.Equal(lists[2], a) {
		t.Errorf("%v and %v became %v", a, b, lists)
	}
}

// numbers returns a list of arbitrary numbers that two bytes each stand for; most of them ascend.
func numbers(b []byte) []int {
	var l []int
	n := 0
	for pair := range slices.Chunk(b, 2) {
		switch last := pair[len(pair)-1]; {
		case last < 200:
			n += int(last) + 1
		case last < 250:
			n += 1 << (last - 190)
		case last < 253:
			n = api.MaxInt
		default:
			n -= int(pair[0])
		}
		l = append(l, n)
	}
	return l
}

// P8.1: arbitrary lists and strings.
func FuzzLists(f *testing.F) {
	f.Add([]byte{0, 1, 0, 1, 0, 2}, []byte{0, 2, 0, 1}, []byte{0, 251}, "\x03\x01\x01\xa8\x02")
	f.Add([]byte{0, 240, 0, 249}, []byte{0, 251, 1, 255}, []byte{}, "\x02\x00\xff\xff\xff\xff\xff\xff\xff\xff\x0f")
	f.Fuzz(func(t *testing.T, a, b, c []byte, s string) {
		l := [][]int{numbers(a), numbers(b), numbers(c)}
		for _, x := range l {
			checkAlone(t, x)
		}
		decoded, _ := Decode(s)
		checkDecode(t, s)
		l = append(l, decoded)
		for _, x := range l {
			for _, y := range l {
				checkSets(t, x, y)
			}
		}
		checkNumbers(t, "Merge", Merge(l), wantMerge(l), l)
	})
}

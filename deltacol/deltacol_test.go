package deltacol

import (
	"encoding/binary"
	"math"
	"math/rand"
	"slices"
	"strings"
	"testing"

	"lookout/api"
)

const (
	mostTime  = 1 << 40
	mostValue = 1 << 59
)

func list(l ...int) []int {
	return l
}

// plain and signed return the encodings of numbers, one after the other.
func plain(l ...uint64) string {
	var b []byte
	for _, n := range l {
		b = binary.AppendUvarint(b, n)
	}
	return string(b)
}

func signed(l ...int) string {
	var b []byte
	for _, n := range l {
		b = binary.AppendVarint(b, int64(n))
	}
	return string(b)
}

// tuples returns all lists of at most n elements of a list.
func tuples[E any](elements []E, n int) [][]E {
	all := [][]E{nil}
	if n == 0 {
		return all
	}
	for _, l := range tuples(elements, n-1) {
		for _, x := range elements {
			all = append(all, append(slices.Clip(l), x))
		}
	}
	return all
}

// short returns a list for a message.
func short(l []int) []int {
	return l[:min(len(l), 20)]
}

// beforeRuns returns how the encoding of a column begins whose runs have the given number of differences.
func (k kind) beforeRuns(differences int) string {
	return plain(uint64(k.alone+differences)) + signed(list(5, 3)[:k.alone]...)
}

func (k kind) checkEncode(t *testing.T, l []int) api.Errno {
	t.Helper()
	s, e := k.encode(l)
	if want, wantError := k.wantEncode(l); s != want || e != wantError {
		t.Errorf("%s %v: %q, error %d instead of %q, error %d", k.name, short(l), s, e, want, wantError)
	}
	return e
}

func (k kind) checkDecode(t *testing.T, s string) api.Errno {
	t.Helper()
	l, e := k.decode(s)
	if want, wantError := k.wantDecode(s); !slices.Equal(l, want) || e != wantError {
		t.Errorf("%s of %q: %v, error %d instead of %v, error %d", k.name, s, short(l), e, short(want), wantError)
	}
	return e
}

func checkCount(t *testing.T, s string) {
	t.Helper()
	n, e := Count(s)
	if want, wantError := wantCount(s); n != want || e != wantError {
		t.Errorf("Count(%q): %d, error %d instead of %d, error %d", s, n, e, want, wantError)
	}
}

// P9.1: encodings that the chapter determines.
func TestEncodings(t *testing.T) {
	for _, c := range []struct {
		k kind
		l []int
		s string
	}{
		{times(), nil, "\x00"}, {times(), list(), "\x00"}, {times(), list(1), "\x01\x02"}, {times(), list(64), "\x01\x80\x01"}, {times(), list(mostTime), "\x01" + signed(mostTime)},
		{times(), list(1, 2), "\x02\x02\x02"}, {times(), list(5, 15), "\x02\x0a\x14"}, {times(), list(1, mostTime), "\x02\x02" + signed(mostTime-1)},
		{times(), list(1, 2, 3), "\x03\x02\x02\x00\x01"}, {times(), list(1, 2, 4), "\x03\x02\x02\x02\x01"}, {times(), list(1, 3, 4), "\x03\x02\x04\x01\x01"},
		{times(), list(10, 20, 30, 40, 51), "\x05\x14\x14\x00\x02\x02\x01"}, {times(), list(1, 2, 4, 7, 11), "\x05\x02\x02\x02\x03"}, {times(), list(1, 2, 4, 5, 7), "\x05\x02\x02\x02\x01\x01\x01\x02\x01"},
		{times(), list(1, mostTime-1, mostTime), "\x03\x02" + signed(mostTime-2, 3-mostTime) + "\x01"}, {times(), list(1, 2, mostTime), "\x03\x02\x02" + signed(mostTime-3) + "\x01"},
		{values(), nil, "\x00"}, {values(), list(), "\x00"}, {values(), list(0), "\x01\x00"}, {values(), list(-1), "\x01\x01"}, {values(), list(mostValue), "\x01" + signed(mostValue)}, {values(), list(-mostValue), "\x01" + signed(-mostValue)},
		{values(), list(7, 7), "\x02\x0e\x00\x01"}, {values(), list(7, 8), "\x02\x0e\x02\x01"}, {values(), list(7, 7, 7, 5), "\x04\x0e\x00\x02\x03\x01"}, {values(), list(0, 3, 6, 9), "\x04\x00\x06\x03"}, {values(), list(1, 0, 1, 0), "\x04\x02\x01\x01\x02\x01\x01\x01"},
		{values(), list(mostValue, -mostValue, mostValue), "\x03" + signed(mostValue, -2*mostValue) + "\x01" + signed(2*mostValue) + "\x01"}, {values(), list(-mostValue, mostValue, mostValue), "\x03" + signed(-mostValue, 2*mostValue) + "\x01\x00\x01"},
		{values(), make([]int, 128), "\x80\x01\x00\x00\x7f"}, {values(), make([]int, 129), "\x81\x01\x00\x00\x80\x01"}, {values(), make([]int, 20000), "\xa0\x9c\x01\x00\x00\x9f\x9c\x01"},
	} {
		if s, e := c.k.encode(c.l); s != c.s || e != api.OK {
			t.Errorf("%s %v: %q, error %d", c.k.name, short(c.l), s, e)
		}
		if l, e := c.k.decode(c.s); !slices.Equal(l, c.l) || e != api.OK {
			t.Errorf("%s of %q: %v, error %d", c.k.name, c.s, short(l), e)
		}
		if n, e := Count(c.s); n != len(c.l) || e != api.OK {
			t.Errorf("Count(%q): %d, error %d", c.s, n, e)
		}
	}
}

// P9.1: what cannot be encoded, and which error comes first.
func TestEncodeErrors(t *testing.T) {
	for _, c := range []struct {
		k kind
		l []int
		e api.Errno
	}{
		{times(), list(0), api.ErrRange}, {times(), list(-1), api.ErrRange}, {times(), list(mostTime + 1), api.ErrRange}, {times(), list(math.MinInt), api.ErrRange}, {times(), list(math.MaxInt), api.ErrRange},
		{times(), list(1, 1), api.ErrOrder}, {times(), list(2, 1), api.ErrOrder}, {times(), list(mostTime, mostTime), api.ErrOrder}, {times(), list(1, 5, 3, 6), api.ErrOrder}, {times(), list(1, 5, 6, 2), api.ErrOrder},
		{times(), list(2, 0), api.ErrRange}, {times(), list(1, mostTime+1), api.ErrRange}, {times(), list(2, math.MinInt), api.ErrRange}, {times(), list(0, 0), api.ErrRange},
		{times(), list(2, 2, 0), api.ErrOrder}, {times(), list(2, 0, 0), api.ErrRange}, {times(), list(3, 2, mostTime+1), api.ErrOrder}, {times(), list(3, mostTime+1, 2), api.ErrRange},
		{times(), make([]int, 20001), api.ErrLimit}, {times(), slices.Repeat(list(1), 20001), api.ErrLimit}, {times(), slices.Repeat(list(1), 20000), api.ErrOrder}, {times(), make([]int, 20000), api.ErrRange},
		{values(), list(mostValue + 1), api.ErrRange}, {values(), list(-mostValue - 1), api.ErrRange}, {values(), list(math.MinInt), api.ErrRange}, {values(), list(math.MaxInt), api.ErrRange}, {values(), list(0, 0, mostValue+1), api.ErrRange}, {values(), list(0, api.MaxInt, 0), api.ErrRange},
		{values(), make([]int, 20001), api.ErrLimit}, {values(), slices.Repeat(list(math.MaxInt), 20001), api.ErrLimit}, {values(), slices.Repeat(list(math.MaxInt), 20000), api.ErrRange},
	} {
		if s, e := c.k.encode(c.l); s != "" || e != c.e {
			t.Errorf("%s %v: %q, error %d instead of %d", c.k.name, short(c.l), s, e, c.e)
		}
	}
}

// P9.1: what cannot be decoded, and which error comes first.
func TestDecodeErrors(t *testing.T) {
	eight := strings.Repeat("\x80", 8)
	for _, k := range kinds() {
		for _, c := range []struct {
			s string
			e api.Errno
		}{
			{"", api.ErrShort}, {"\x80", api.ErrShort}, {"\x80\x00", api.ErrDecode}, {eight + "\x80", api.ErrDecode}, {eight + "\x11", api.ErrDecode},
			{"\x00\x00", api.ErrDecode}, {"\x00rest", api.ErrDecode}, {"\xa1\x9c\x01", api.ErrLimit}, {"\xa1\x9c\x01\x80\x00", api.ErrLimit}, {"\xa0\x9c\x01", api.ErrShort}, {plain(api.MaxInt), api.ErrLimit}, {plain(api.MaxInt + 1), api.ErrDecode},
			{"\x01", api.ErrShort}, {"\x01\x82", api.ErrShort}, {"\x01\x82\x00", api.ErrDecode}, {"\x01" + signed(api.MaxInt+1), api.ErrDecode}, {"\x01\x02\x00", api.ErrDecode}, {"\x01\x02\x02", api.ErrDecode}, {"\x02\x02", api.ErrShort},
		} {
			if l, e := k.decode(c.s); len(l) != 0 || e != c.e {
				t.Errorf("%s of %q: %v, error %d instead of %d", k.name, c.s, short(l), e, c.e)
			}
		}
		one, four := k.beforeRuns(1), k.beforeRuns(4)
		for _, c := range []struct {
			s string
			e api.Errno
		}{
			{one, api.ErrShort}, {one + "\x00", api.ErrShort}, {one + "\x80", api.ErrShort}, {one + "\x80\x00", api.ErrDecode}, {one + "\x00\x80", api.ErrShort}, {one + "\x00\x81\x00", api.ErrDecode}, {one + signed(api.MaxInt+1), api.ErrDecode}, {one + "\x00" + plain(api.MaxInt+1), api.ErrDecode},
			{one + "\x00\x00", api.ErrDecode}, {one + "\x00\x02", api.ErrDecode}, {one + "\x00" + plain(api.MaxInt), api.ErrDecode}, {one + "\x00\x01\x00", api.ErrDecode}, {one + "\x00\x01\x00\x01", api.ErrDecode},
			{four + "\x00\x00", api.ErrDecode}, {four + "\x00\x03", api.ErrShort}, {four + "\x00\x05", api.ErrDecode}, {four + "\x00\x03\x02", api.ErrShort}, {four + "\x00\x03\x02\x02", api.ErrDecode}, {four + "\x00\x03\x02\x00", api.ErrDecode},
			{four + "\x00\x02\x00\x02", api.ErrDecode}, {four + "\x02\x01\x02\x03", api.ErrDecode}, {four + "\x00\x02\x02\x01\x02\x01", api.ErrDecode}, {four + "\x00\x01\x00\x01\x00\x01", api.ErrShort}, {four + "\x00\x01\x00\x01\x00\x01\x00", api.ErrShort},
		} {
			if l, e := k.decode(c.s); len(l) != 0 || e != c.e {
				t.Errorf("%s of %q: %v, error %d instead of %d", k.name, c.s, short(l), e, c.e)
			}
		}
	}
}

// P9.1: numbers that may not be in a column are only looked at when all have been read.
func TestDecodeRanges(t *testing.T) {
	for _, c := range []struct {
		k kind
		s string
	}{
		{times(), "\x01" + signed(0)}, {times(), "\x01" + signed(-1)}, {times(), "\x01" + signed(mostTime+1)}, {times(), "\x01" + signed(api.MaxInt)}, {times(), "\x01" + signed(-api.MaxInt)},
		{times(), "\x02" + signed(0, 1)}, {times(), "\x02" + signed(1, 0)}, {times(), "\x02" + signed(2, -1)}, {times(), "\x02" + signed(1, mostTime)}, {times(), "\x02" + signed(-1, 2)},
		{times(), "\x03" + signed(1, 1, -1) + "\x01"}, {times(), "\x03" + signed(5, 1, -2) + "\x01"}, {times(), "\x03" + signed(1, 1, mostTime-2) + "\x01"}, {times(), "\x05" + signed(10, 1, -1) + "\x03"}, {times(), "\x04" + signed(10, 2, -1) + "\x02"}, {times(), "\x04" + signed(1, mostTime/2, 1) + "\x02"},
		// The last of 17 differences has wrapped around, and is 1 again.
		{times(), "\x12" + signed(1, 1, api.MaxInt) + "\x10"}, {times(), "\x13" + signed(1, 1, api.MaxInt) + "\x10" + signed(0) + "\x01"},
		{values(), "\x01" + signed(mostValue+1)}, {values(), "\x01" + signed(-mostValue-1)}, {values(), "\x01" + signed(api.MaxInt)}, {values(), "\x01" + signed(-api.MaxInt)},
		{values(), "\x02" + signed(mostValue, 1) + "\x01"}, {values(), "\x02" + signed(-mostValue, -1) + "\x01"}, {values(), "\x02" + signed(mostValue+1, -1) + "\x01"}, {values(), "\x03" + signed(-mostValue, api.MaxInt) + "\x02"}, {values(), "\x02" + signed(0, api.MaxInt) + "\x01"},
		// The last value has wrapped around, and is 0 again.
		{values(), "\x11" + signed(0, api.MaxInt) + "\x10"}, {values(), "\x11" + signed(0, -api.MaxInt) + "\x10"},
	} {
		if l, e := c.k.decode(c.s); len(l) != 0 || e != api.ErrDecode {
			t.Errorf("%s of %q: %v, error %d", c.k.name, c.s, short(l), e)
		}
		if _, e := c.k.wantDecode(c.s); e != api.ErrDecode {
			t.Errorf("%s of %q: the test expects error %d", c.k.name, c.s, e)
		}
		// The next number is missing, and this counts first.
		longer := string([]byte{c.s[0] + 1}) + c.s[1:]
		if l, e := c.k.decode(longer); len(l) != 0 || e != api.ErrShort {
			t.Errorf("%s of %q: %v, error %d", c.k.name, longer, short(l), e)
		}
	}
}

// P9.1: all short lists of some numbers.
func TestShortLists(t *testing.T) {
	for _, k := range kinds() {
		edges := list(math.MinInt, -api.MaxInt, k.least-1, k.least, k.least+1, k.least+3, 0, 7, k.most-1, k.most, k.most+1, math.MaxInt)
		counts := map[api.Errno]int{}
		for _, l := range tuples(edges, 4) {
			counts[k.checkEncode(t, l)]++
		}
		if counts[api.OK] < 50 || counts[api.ErrRange] < 10000 || (counts[api.ErrOrder] > 0) != k.ascends {
			t.Errorf("%s: %v", k.name, counts)
		}
	}
}

// P9.1: all short strings of some encodings of numbers.
func TestShortStrings(t *testing.T) {
	parts := append(strings.Split("\x00\x01\x02\x03\x04\x05\x06\x80", ""), signed(mostValue), signed(-mostTime))
	for _, k := range kinds() {
		counts := map[api.Errno]int{}
		for _, l := range tuples(parts, 5) {
			s := strings.Join(l, "")
			counts[k.checkDecode(t, s)]++
			checkCount(t, s)
		}
		if counts[api.OK] < 60 || counts[api.ErrDecode] < 10000 || counts[api.ErrShort] < 10000 || counts[api.ErrLimit] < 10000 || len(counts) != 4 {
			t.Errorf("%s: %v", k.name, counts)
		}
	}
}

// P9.1: encodings of which a byte was changed, removed or added.
func TestChangedEncodings(t *testing.T) {
	random := rand.New(rand.NewSource(9))
	for _, k := range kinds() {
		counts := map[api.Errno]int{}
		for range 1000 {
			s, _ := k.encode(k.randomColumn(random, 30))
			for range 10 {
				i := random.Intn(len(s))
				c := string([]byte{byte(random.Intn(256)) >> random.Intn(8)})
				for _, changed := range []string{s[:i] + c + s[i+1:], s[:i], s[:i] + c + s[i:], s + c, s[:i] + s[i+1:]} {
					counts[k.checkDecode(t, changed)]++
					checkCount(t, changed)
				}
			}
		}
		if counts[api.OK] < 1000 || counts[api.ErrDecode] < 5000 || counts[api.ErrShort] < 5000 {
			t.Errorf("%s: %v", k.name, counts)
		}
	}
}

// P9.1: the longest columns, and those that are longer.
func TestLimits(t *testing.T) {
	random := rand.New(rand.NewSource(9))
	for _, k := range kinds() {
		l := k.irregularColumn(random, 20001)
		if e := k.checkEncode(t, l[:20000]); e != api.OK {
			t.Errorf("%s: error %d", k.name, e)
		}
		s, _ := k.encode(l[1:])
		if e := k.checkDecode(t, s); e != api.OK {
			t.Errorf("%s: error %d", k.name, e)
		}
		if s, e := k.encode(l); s != "" || e != api.ErrLimit {
			t.Errorf("%s: %d bytes, error %d", k.name, len(s), e)
		}
		if l, e := k.decode("\xa1" + s[1:]); len(l) != 0 || e != api.ErrLimit {
			t.Errorf("%s: %d, error %d", k.name, len(l), e)
		}
	}
}

// P9.1: the number of elements is all that Count reads.
func TestCount(t *testing.T) {
	for _, c := range []struct {
		s string
		n int
		e api.Errno
	}{
		{"\x00", 0, api.OK}, {"\x05", 5, api.OK}, {"\x05rest", 5, api.OK}, {"\x00\x00", 0, api.OK}, {"\x80\x01\x80", 128, api.OK}, {plain(20000), 20000, api.OK}, {plain(20000) + "\xff", 20000, api.OK},
		{"", 0, api.ErrShort}, {"\x80", 0, api.ErrShort}, {"\xa1\x9c", 0, api.ErrShort}, {"\x80\x00", 0, api.ErrDecode}, {"\x85\x00", 0, api.ErrDecode}, {strings.Repeat("\x80", 9), 0, api.ErrDecode}, {plain(api.MaxInt + 1), 0, api.ErrDecode},
		{plain(20001), 0, api.ErrLimit}, {plain(20001) + "rest", 0, api.ErrLimit}, {plain(api.MaxInt), 0, api.ErrLimit},
	} {
		if n, e := Count(c.s); n != c.n || e != c.e {
			t.Errorf("%q: %d, error %d instead of %d, error %d", c.s, n, e, c.n, c.e)
		}
		checkCount(t, c.s)
	}
}

// R3: arguments are not changed, also where there is room behind them, and results are new memory.
func TestMemory(t *testing.T) {
	random := rand.New(rand.NewSource(9))
	for _, k := range kinds() {
		for range 100 {
			l := k.randomColumn(random, 20)
			around := slices.Concat(l, list(-7, -8, -9))
			s, _ := k.encode(around[:len(l)])
			if !slices.Equal(around, slices.Concat(l, list(-7, -8, -9))) {
				t.Errorf("%s %v became %v", k.name, l, around)
			}
			decoded, _ := k.decode(s)
			again, _ := k.decode(s)
			for i := range decoded[:cap(decoded)] {
				decoded[:cap(decoded)][i] = -5
			}
			if !slices.Equal(again, l) {
				t.Errorf("%s %v: the second result became %v", k.name, l, again)
			}
		}
	}
}

// numbers returns a list of arbitrary numbers that two bytes each stand for; most of them are near the one before.
func numbers(b []byte) []int {
	var l []int
	n := 0
	for pair := range slices.Chunk(b, 2) {
		switch last := pair[len(pair)-1]; {
		case last < 200:
			n += int(pair[0]) + 1
		case last < 240:
			n += 1 << (last - 180)
		case last < 250:
			n -= 1 << (pair[0] % 64)
		case last < 252:
			n = mostValue
		case last < 254:
			n = -mostValue
		default:
			n = mostTime
		}
		l = append(l, n)
	}
	return l
}

// P9.1 to P9.3: arbitrary lists and strings.
func FuzzColumns(f *testing.F) {
	f.Add([]byte{9, 0, 9, 0, 9, 0, 9, 0, 10, 0}, "\x05\x14\x14\x00\x02\x02\x01")
	f.Add([]byte{0, 251, 0, 253, 0, 254, 0, 245}, "\x04\x0e\x00\x02\x03\x01")
	f.Fuzz(func(t *testing.T, b []byte, s string) {
		checkCount(t, s)
		for _, k := range kinds() {
			l := numbers(b)
			k.checkEncode(t, l)
			k.checkDecode(t, s)
			k.checkCanonical(t, s)
			if k.wantCheck(l) == api.OK {
				k.checkRoundTrip(t, l)
			}
		}
	})
}

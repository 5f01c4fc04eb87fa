package varint

import (
	"encoding/binary"
	"math"
	"slices"
	"strings"
	"testing"

	"lookout/api"
)

// ends returns the numbers from 0 to MaxInt at which something changes: the length of the encoding, the range, and their neighbours.
func ends() []int {
	l := []int{0, 1, 2, 300, api.MaxInt - 1, api.MaxInt}
	for shift := 6; shift < 60; shift++ {
		l = append(l, 1<<shift-1, 1<<shift, 1<<shift+1)
	}
	slices.Sort(l)
	return slices.Compact(l)
}

// signedEnds returns the numbers of ends with both signs, in ascending order.
func signedEnds() []int {
	var l []int
	for _, n := range ends() {
		l = append(l, n, -n)
	}
	slices.Sort(l)
	return slices.Compact(l)
}

// plain and signed are the encodings by the standard library, which has the same ones.
func plain(n int) string {
	return string(binary.AppendUvarint(nil, uint64(n)))
}

func signed(n int) string {
	return string(binary.AppendVarint(nil, int64(n)))
}

func list(l []int) string {
	s := plain(len(l))
	for _, n := range l {
		s += signed(n)
	}
	return s
}

func checkRead(t *testing.T, s string, number, size int, want api.Errno) {
	t.Helper()
	if n, k, e := Read(s); n != number || k != size || e != want {
		t.Errorf("Read(%q): %d, %d, error %d instead of %d, %d, error %d", s, n, k, e, number, size, want)
	}
}

func checkReadSigned(t *testing.T, s string, number, size int, want api.Errno) {
	t.Helper()
	if n, k, e := ReadSigned(s); n != number || k != size || e != want {
		t.Errorf("ReadSigned(%q): %d, %d, error %d instead of %d, %d, error %d", s, n, k, e, number, size, want)
	}
}

func checkDecode(t *testing.T, s string, list []int, want api.Errno) {
	t.Helper()
	if l, e := Decode(s); !slices.Equal(l, list) || e != want {
		t.Errorf("Decode of %d bytes: %d numbers, error %d instead of %d numbers, error %d", len(s), len(l), e, len(list), want)
	}
}

// P1.1: the encodings of numbers.
func TestAppend(t *testing.T) {
	for _, x := range []struct {
		n int
		s string
	}{
		{0, "\x00"}, {1, "\x01"}, {127, "\x7f"}, {128, "\x80\x01"}, {300, "\xac\x02"}, {16383, "\xff\x7f"}, {16384, "\x80\x80\x01"},
		{1<<56 - 1, strings.Repeat("\xff", 7) + "\x7f"}, {1 << 56, strings.Repeat("\x80", 8) + "\x01"}, {api.MaxInt, strings.Repeat("\x80", 8) + "\x10"},
	} {
		if plain(x.n) != x.s {
			t.Fatalf("%d: the test expects %q", x.n, plain(x.n))
		}
	}
	for _, n := range ends() {
		for _, before := range []string{"", "p", "\x80"} {
			if s, e := Append(before, n); s != before+plain(n) || e != api.OK {
				t.Errorf("%d: %q, error %d", n, s, e)
			}
		}
		if size := Size(n); size != len(plain(n)) {
			t.Errorf("%d: size %d", n, size)
		}
	}
	for _, n := range []int{-1, -2, -128, -api.MaxInt, api.MaxInt + 1, 2 * api.MaxInt, math.MaxInt, math.MinInt} {
		if s, e := Append("p", n); s != "" || e != api.ErrRange {
			t.Errorf("%d: %q, error %d", n, s, e)
		}
		if size := Size(n); size != 0 {
			t.Errorf("%d: size %d", n, size)
		}
	}
}

// P1.1: the encodings of signed numbers.
func TestAppendSigned(t *testing.T) {
	for _, x := range []struct {
		n int
		s string
	}{
		{0, "\x00"}, {-1, "\x01"}, {1, "\x02"}, {63, "\x7e"}, {-64, "\x7f"}, {64, "\x80\x01"}, {-65, "\x81\x01"}, {150, "\xac\x02"},
		{api.MaxInt, strings.Repeat("\x80", 8) + "\x20"}, {-api.MaxInt, strings.Repeat("\xff", 8) + "\x1f"},
	} {
		if signed(x.n) != x.s {
			t.Fatalf("%d: the test expects %q", x.n, signed(x.n))
		}
	}
	for _, n := range signedEnds() {
		for _, before := range []string{"", "p", "\x80"} {
			if s, e := AppendSigned(before, n); s != before+signed(n) || e != api.OK {
				t.Errorf("%d: %q, error %d", n, s, e)
			}
		}
	}
	for _, n := range []int{api.MaxInt + 1, -api.MaxInt - 1, 2 * api.MaxInt, -2 * api.MaxInt, math.MaxInt, math.MinInt} {
		if s, e := AppendSigned("p", n); s != "" || e != api.ErrRange {
			t.Errorf("%d: %q, error %d", n, s, e)
		}
	}
}

// P1.1: what Read and ReadSigned refuse, and which error comes first.
func TestReadErrors(t *testing.T) {
	eight, ones := strings.Repeat("\x80", 8), strings.Repeat("\xff", 8)
	for _, x := range []struct {
		s string
		e api.Errno
	}{
		{"", api.ErrShort}, {"\x80", api.ErrShort}, {"\xff\xff", api.ErrShort}, {eight, api.ErrShort}, {ones, api.ErrShort},
		{eight + "\x80", api.ErrDecode}, {ones + "\xff", api.ErrDecode}, {ones + "\xff\x00", api.ErrDecode}, {eight + "\x80\x01", api.ErrDecode}, {eight + "\x90", api.ErrDecode},
		{"\x80\x00", api.ErrDecode}, {"\xff\x00", api.ErrDecode}, {"\x81\x80\x00rest", api.ErrDecode}, {eight + "\x00", api.ErrDecode}, {eight[1:] + "\x00", api.ErrDecode},
		{"\x81" + eight[1:] + "\x20", api.ErrDecode}, {eight + "\x21", api.ErrDecode}, {eight + "\x40", api.ErrDecode}, {ones + "\x7f", api.ErrDecode},
	} {
		checkRead(t, x.s, 0, 0, x.e)
		checkReadSigned(t, x.s, 0, 0, x.e)
	}
}

// P1.1: numbers that only ReadSigned accepts, since 2n may be greater than MaxInt.
func TestReadRange(t *testing.T) {
	eight, ones := strings.Repeat("\x80", 8), strings.Repeat("\xff", 8)
	checkRead(t, eight+"\x10", api.MaxInt, 9, api.OK)
	checkRead(t, ones+"\x0f", api.MaxInt-1, 9, api.OK)
	checkReadSigned(t, eight+"\x10", api.MaxInt/2, 9, api.OK)
	for _, x := range []struct {
		s string
		n int
	}{
		{"\x81" + eight[1:] + "\x10", -api.MaxInt/2 - 1}, {eight + "\x11", api.MaxInt/2 + 1<<55}, {eight + "\x20", api.MaxInt}, {ones + "\x1f", -api.MaxInt}, {"\xfe" + ones[1:] + "\x1f", api.MaxInt - 1},
	} {
		checkRead(t, x.s, 0, 0, api.ErrDecode)
		checkReadSigned(t, x.s, x.n, 9, api.OK)
	}
}

// P1.1: lists, the longest ones, and those that cannot be encoded.
func TestEncode(t *testing.T) {
	longest := make([]int, 20000)
	extreme := slices.Repeat([]int{-api.MaxInt}, 20000)
	for _, l := range [][]int{nil, {}, {0}, {-1, 150}, {0, 0, 0}, make([]int, 127), make([]int, 128), signedEnds(), longest, extreme} {
		if s, e := Encode(l); s != list(l) || e != api.OK {
			t.Errorf("%d numbers: %d bytes, error %d", len(l), len(s), e)
		}
	}
	if s, _ := Encode([]int{-1, 150}); s != "\x02\x01\xac\x02" {
		t.Errorf("%q", s)
	}
	for _, x := range []struct {
		l []int
		e api.Errno
	}{
		{make([]int, 20001), api.ErrLimit}, {make([]int, 40000), api.ErrLimit}, {slices.Repeat([]int{math.MinInt}, 20001), api.ErrLimit},
		{[]int{api.MaxInt + 1}, api.ErrRange}, {[]int{1, -api.MaxInt - 1}, api.ErrRange}, {[]int{math.MaxInt, 1}, api.ErrRange}, {[]int{1, math.MinInt, 1}, api.ErrRange},
		{append(slices.Clone(longest[1:]), api.MaxInt+1), api.ErrRange},
	} {
		if s, e := Encode(x.l); s != "" || e != x.e {
			t.Errorf("%d numbers: %q, error %d instead of %d", len(x.l), s, e, x.e)
		}
	}
}

// P1.1: what Decode refuses, and which error comes first.
func TestDecodeErrors(t *testing.T) {
	eight := strings.Repeat("\x80", 8)
	for _, x := range []struct {
		s string
		e api.Errno
	}{
		{"", api.ErrShort}, {"\x80", api.ErrShort}, {"\x80\x00", api.ErrDecode}, {eight + "\x80", api.ErrDecode}, {eight + "\x11", api.ErrDecode},
		{plain(20000), api.ErrShort}, {plain(20001), api.ErrLimit}, {plain(20001) + strings.Repeat("\x00", 20001), api.ErrLimit}, {plain(20001) + "\x80\x00", api.ErrLimit}, {plain(api.MaxInt), api.ErrLimit},
		{"\x01", api.ErrShort}, {"\x01\x80", api.ErrShort}, {"\x02\x01", api.ErrShort}, {"\x02\x01\xac", api.ErrShort}, {"\x01\x80\x00", api.ErrDecode}, {"\x01" + eight + "\x21", api.ErrDecode},
		{"\x02\x80\x00", api.ErrDecode}, {"\x03\x80\x00\x80", api.ErrDecode}, {"\x02\x00\x80", api.ErrShort},
		{"\x00\x00", api.ErrDecode}, {"\x01\x00\x00", api.ErrDecode}, {"\x02\x01\xac\x02\x80", api.ErrDecode}, {plain(20000) + strings.Repeat("\x00", 20001), api.ErrDecode},
	} {
		checkDecode(t, x.s, nil, x.e)
	}
}

// P1.2: reading what was appended, whatever follows.
func TestRoundTripsOfNumbers(t *testing.T) {
	for _, after := range []string{"", "\x00", "\x80", "\xff\xff", "rest"} {
		for _, n := range ends() {
			s, _ := Append("", n)
			checkRead(t, s+after, n, len(s), api.OK)
		}
		for _, n := range signedEnds() {
			s, _ := AppendSigned("", n)
			checkReadSigned(t, s+after, n, len(s), api.OK)
		}
	}
}

// P1.2: decoding an encoded list.
func TestRoundTripsOfLists(t *testing.T) {
	mixed := make([]int, 20000)
	for i := range mixed {
		mixed[i] = (i - 10000) * 104729 << (i % 20)
	}
	for _, l := range [][]int{nil, {0}, {-1, 150}, signedEnds(), mixed, mixed[:128], make([]int, 20000)} {
		s, e := Encode(l)
		if e != api.OK {
			t.Fatalf("%d numbers: error %d", len(l), e)
		}
		checkDecode(t, s, l, api.OK)
	}
}

// shortStrings calls f with all strings of at most most bytes of an alphabet.
func shortStrings(alphabet string, most int, f func(string)) {
	var extend func(string)
	extend = func(s string) {
		f(s)
		for i := 0; len(s) < most && i < len(alphabet); i++ {
			extend(s + alphabet[i:i+1])
		}
	}
	extend("")
}

func everyByte() string {
	b := make([]byte, 256)
	for i := range b {
		b[i] = byte(i)
	}
	return string(b)
}

// checkCanonical checks that what can be read from s is what would be appended.
func checkCanonical(t *testing.T, s string) {
	t.Helper()
	if n, k, e := Read(s); e == api.OK {
		if again, e := Append("", n); again != s[:k] || e != api.OK {
			t.Errorf("%q is read as %d", s[:k], n)
		}
	}
	if n, k, e := ReadSigned(s); e == api.OK {
		if again, e := AppendSigned("", n); again != s[:k] || e != api.OK {
			t.Errorf("%q is read as %d", s[:k], n)
		}
	}
	if l, e := Decode(s); e == api.OK {
		if again, e := Encode(l); again != s || e != api.OK {
			t.Errorf("%q is decoded as %v", s, l)
		}
	}
}

// P1.3: no number and no list can be read from another string than its encoding.
func TestCanonical(t *testing.T) {
	shortStrings(everyByte(), 2, func(s string) { checkCanonical(t, s) })
	shortStrings("\x00\x01\x02\x7f\x80\x81\xff", 5, func(s string) { checkCanonical(t, s) })
	for length := range 12 {
		for _, fill := range []string{"\x80", "\x81", "\xff"} {
			shortStrings("\x00\x01\x0f\x10\x11\x1f\x20\x21\x40\x7f\x80\xff", 2, func(s string) {
				checkCanonical(t, strings.Repeat(fill, length)+s)
			})
		}
	}
}

// P1.3: a group of zeros that is added to an encoding makes it invalid.
func TestPaddedNumbers(t *testing.T) {
	for _, n := range signedEnds() {
		s := signed(n)
		padded := s[:len(s)-1] + string([]byte{s[len(s)-1] | 128, 0})
		if _, _, e := ReadSigned(padded); e != api.ErrDecode {
			t.Errorf("%q: error %d", padded, e)
		}
		if _, _, e := Read(padded); e != api.ErrDecode {
			t.Errorf("%q: error %d", padded, e)
		}
		if _, e := Decode("\x01" + padded); e != api.ErrDecode {
			t.Errorf("%q: error %d", padded, e)
		}
	}
}

// P1.4: sizes do not fall, and small numbers have one byte.
func TestSizes(t *testing.T) {
	last := 1
	for _, n := range ends() {
		s, _ := Append("", n)
		if Size(n) != len(s) || len(s) < last || len(s) > 9 {
			t.Errorf("%d: %d bytes, size %d, after %d", n, len(s), Size(n), last)
		}
		last = len(s)
	}
	if last != 9 {
		t.Errorf("MaxInt has %d bytes", last)
	}
	for n := range 1000 {
		if (Size(n) == 1) != (n < 128) {
			t.Errorf("%d: size %d", n, Size(n))
		}
	}
}

// P1.4: the sizes of signed numbers of each sign.
func TestSignedSizes(t *testing.T) {
	for _, sign := range []int{1, -1} {
		last := 1
		for _, n := range ends() {
			s, _ := AppendSigned("", sign*n)
			if len(s) < last || len(s) > 9 {
				t.Errorf("%d: %d bytes after %d", sign*n, len(s), last)
			}
			last = len(s)
		}
	}
	for n := -1000; n <= 1000; n++ {
		s, _ := AppendSigned("", n)
		if (len(s) == 1) != (-64 <= n && n <= 63) {
			t.Errorf("%d: %d bytes", n, len(s))
		}
	}
}

// P1.5: every proper beginning of an encoding is too short.
func TestPrefixes(t *testing.T) {
	for _, n := range ends() {
		s, _ := Append("", n)
		for i := range len(s) {
			checkRead(t, s[:i], 0, 0, api.ErrShort)
		}
	}
	for _, n := range signedEnds() {
		s, _ := AppendSigned("", n)
		for i := range len(s) {
			checkReadSigned(t, s[:i], 0, 0, api.ErrShort)
		}
	}
	for _, l := range [][]int{nil, {0}, {-1, 150}, signedEnds(), make([]int, 1000)} {
		s, _ := Encode(l)
		for i := range len(s) {
			checkDecode(t, s[:i], nil, api.ErrShort)
		}
	}
}

// R1, R3 and R4: arguments are not changed, results are not tied to them, and nil is an empty list.
func TestArgumentsAndResults(t *testing.T) {
	l := []int{3, -4, 5}
	s, _ := Encode(l)
	got, _ := Decode(s)
	again, _ := Decode(s)
	got[0] = 9
	if !slices.Equal(l, []int{3, -4, 5}) || !slices.Equal(again, l) {
		t.Errorf("%v, %v", l, again)
	}
	none, e := Encode(nil)
	empty, f := Encode([]int{})
	if none != empty || e != f {
		t.Errorf("%q, %q", none, empty)
	}
}

// P1.1: for arbitrary bytes, the results are those of the standard library where it accepts them.
func FuzzRead(f *testing.F) {
	for _, n := range signedEnds() {
		f.Add(signed(n))
	}
	f.Fuzz(func(t *testing.T, s string) {
		checkCanonical(t, s)
		n, k := binary.Uvarint([]byte(s))
		valid := k > 0 && n <= api.MaxInt && plain(int(n)) == s[:k]
		if m, size, e := Read(s); valid != (e == api.OK) || valid && (m != int(n) || size != k) {
			t.Errorf("Read(%q): %d, %d, error %d", s, m, size, e)
		}
		i, k := binary.Varint([]byte(s))
		valid = k > 0 && -api.MaxInt <= i && i <= api.MaxInt && signed(int(i)) == s[:k]
		if m, size, e := ReadSigned(s); valid != (e == api.OK) || valid && (m != int(i) || size != k) {
			t.Errorf("ReadSigned(%q): %d, %d, error %d", s, m, size, e)
		}
	})
}

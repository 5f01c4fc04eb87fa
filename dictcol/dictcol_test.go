package dictcol

import (
	"math"
	"math/rand"
	"slices"
	"strings"
	"testing"

	"lookout/api"
)

func list(l ...string) []string {
	return l
}

// tuples returns all lists of at most n elements of a list.
func tuples[E any](elements []E, n int) [][]E {
	all := [][]E{nil}
	if n == 0 {
		return all
	}
	for _, l := range tuples(elements, n-1) {
		for _, x := range elements {
			all = append(all, append(slices.Clip(l), x))
		}
	}
	return all
}

// short and shortText return the beginning of a list or a string, for a message.
func short[E any](l []E) []E {
	return l[:min(len(l), 60)]
}

func shortText(s string) string {
	return s[:min(len(s), 60)]
}

// indicesOf returns where a list has a string.
func indicesOf(l []string, value string) []int {
	var at []int
	for i := range l {
		if l[i] == value {
			at = append(at, i)
		}
	}
	return at
}

func checkEncode(t *testing.T, l []string) api.Errno {
	t.Helper()
	s, e := Encode(l)
	if want, wantError := wantEncode(l); s != want || e != wantError {
		t.Errorf("%.60q: %q, error %d instead of %q, error %d", short(l), shortText(s), e, shortText(want), wantError)
	}
	return e
}

// checkDecode checks all functions with an encoding s, and returns whether it is one.
func checkDecode(t *testing.T, s string) bool {
	t.Helper()
	want, is := wantDecode(s)
	if !is {
		checkIsNone(t, s)
		return false
	}
	if l, e := Decode(s); !slices.Equal(l, want) || e != api.OK {
		t.Errorf("Decode(%q): %.60q, error %d instead of %.60q", shortText(s), short(l), e, short(want))
	}
	d := wantDictionary(want)
	if l, e := Distinct(s); !slices.Equal(l, d) || e != api.OK {
		t.Errorf("Distinct(%q): %.60q, error %d instead of %.60q", shortText(s), short(l), e, short(d))
	}
	for _, value := range append(short(d), "", "a", "b", "not there") {
		if at, e := Lookup(s, value); !slices.Equal(at, indicesOf(want, value)) || e != api.OK {
			t.Errorf("Lookup(%q, %.60q): %v, error %d", shortText(s), value, short(at), e)
		}
	}
	for i := range short(want) {
		if x, e := At(s, i); x != want[i] || e != api.OK {
			t.Errorf("At(%q, %d): %.60q, error %d instead of %.60q", shortText(s), i, x, e, want[i])
		}
	}
	for _, i := range []int{-1, len(want), math.MinInt, math.MaxInt} {
		if x, e := At(s, i); x != "" || e != api.ErrRange {
			t.Errorf("At(%q, %d): %.60q, error %d", shortText(s), i, x, e)
		}
	}
	return true
}

// checkIsNone checks that no function takes s as an encoding.
func checkIsNone(t *testing.T, s string) {
	t.Helper()
	if l, e := Decode(s); len(l) != 0 || e != api.ErrDecode {
		t.Errorf("Decode(%q): %.60q, error %d", shortText(s), short(l), e)
	}
	if d, e := Distinct(s); len(d) != 0 || e != api.ErrDecode {
		t.Errorf("Distinct(%q): %.60q, error %d", shortText(s), short(d), e)
	}
	for _, value := range list("", "a", "b") {
		if at, e := Lookup(s, value); len(at) != 0 || e != api.ErrDecode {
			t.Errorf("Lookup(%q, %q): %v, error %d", shortText(s), value, short(at), e)
		}
	}
	// What is no encoding comes before what is no index.
	for _, i := range []int{0, -1, 1, math.MinInt, math.MaxInt} {
		if x, e := At(s, i); x != "" || e != api.ErrDecode {
			t.Errorf("At(%q, %d): %.60q, error %d", shortText(s), i, x, e)
		}
	}
}

// P10.1: encodings that the chapter determines.
func TestEncodings(t *testing.T) {
	most := strings.Repeat("x", 1000)
	for _, c := range []struct {
		l []string
		s string
	}{
		{nil, "\x00\x00"}, {list(), "\x00\x00"}, {list(""), "\x01\x01\x00\x00\x00\x00"}, {list("", ""), "\x02\x01\x00\x00\x00\x01"}, {list("a"), "\x01\x01\x00\x01a\x00\x00"},
		{list("b", "b", "ab", "abc"), "\x04\x03\x00\x02ab\x02\x01c\x00\x01b\x02\x01\x00\x00\x01\x00"}, {list("", "a"), "\x02\x02\x00\x00\x00\x01a\x00\x00\x01\x00"}, {list("a", ""), "\x02\x02\x00\x00\x00\x01a\x01\x00\x00\x00"}, {list("a", "b", "a"), "\x03\x02\x00\x01a\x00\x01b\x00\x00\x01\x00\x00\x00"},
		{list("ab", "ac", "a"), "\x03\x03\x00\x01a\x01\x01b\x01\x01c\x01\x00\x02\x00\x00\x00"}, {list("\xff", "\x00", "\x7f", "\x80"), "\x04\x04\x00\x01\x00\x00\x01\x7f\x00\x01\x80\x00\x01\xff\x03\x00\x00\x00\x01\x00\x02\x00"}, {list("é", "è"), "\x02\x02\x00\x02è\x01\x01\xa9\x01\x00\x00\x00"},
		{list("abcd", "abxd"), "\x02\x02\x00\x04abcd\x02\x02xd\x00\x00\x01\x00"}, {list("ab\x00", "ab"), "\x02\x02\x00\x02ab\x02\x01\x00\x01\x00\x00\x00"}, {slices.Repeat(list("a"), 128), "\x80\x01\x01\x00\x01a\x00\x7f"}, {slices.Repeat(list("a"), 129), "\x81\x01\x01\x00\x01a\x00\x80\x01"},
		{list(most), "\x01\x01\x00\xe8\x07" + most + "\x00\x00"}, {list(most, most[:999]+"y"), "\x02\x02\x00\xe8\x07" + most + "\xe7\x07\x01y\x00\x00\x01\x00"}, {list(most[:127], most[:128]), "\x02\x02\x00\x7f" + most[:127] + "\x7f\x01x\x00\x00\x01\x00"}, {slices.Repeat(list("ab", "ab"), 1000), "\xd0\x0f\x01\x00\x02ab\x00\xcf\x0f"},
	} {
		if s, e := Encode(c.l); s != c.s || e != api.OK {
			t.Errorf("%.60q: %q, error %d", short(c.l), shortText(s), e)
		}
		if l, e := Decode(c.s); !slices.Equal(l, c.l) || e != api.OK {
			t.Errorf("%q: %.60q, error %d", shortText(c.s), short(l), e)
		}
		checkDecode(t, c.s)
	}
}

// differentStrings returns n strings of the given size that share few bytes.
func differentStrings(n, size int) []string {
	var l []string
	for i := range n {
		l = append(l, string([]byte{byte(i >> 8), byte(i)})+strings.Repeat("x", size-2))
	}
	return l
}

// columnOfBytes returns a column whose encoding has 2^20 bytes and the given number more.
func columnOfBytes(t *testing.T, more int) []string {
	t.Helper()
	l := append(differentStrings(1047, 996), "\xff")
	first, runs := wantParts(l)
	missing := 1<<20 - len(first+runs)
	if missing < 500 || missing > 900 {
		t.Fatalf("%d bytes are missing", missing)
	}
	// One byte of what is missing is needed for the length of the last string, which has two bytes then.
	return append(l[:1047], "\xff"+strings.Repeat("y", missing-1+more))
}

// P10.1: what cannot be encoded.
func TestEncodeErrors(t *testing.T) {
	long := strings.Repeat("x", 1001)
	for _, l := range [][]string{
		{long}, {"a", long}, {long, "a"}, {"a", long, "b"}, append(make([]string, 1999), long), make([]string, 2001), append(make([]string, 2000), long), slices.Repeat(list("a", "b"), 1001), differentStrings(2001, 2), {strings.Repeat(long, 2000)},
		differentStrings(1100, 1000), differentStrings(2000, 1000), columnOfBytes(t, 1), columnOfBytes(t, 2),
	} {
		if s, e := Encode(l); s != "" || e != api.ErrLimit {
			t.Errorf("%.60q: %d bytes, error %d", short(l), len(s), e)
		}
	}
}

// P10.1: an encoding may have 2^20 bytes, and no more, and be decoded then.
func TestGreatestEncoding(t *testing.T) {
	for _, more := range []int{-1, 0} {
		l := columnOfBytes(t, more)
		s, e := Encode(l)
		if len(s) != 1<<20+more || e != api.OK {
			t.Errorf("%d bytes, error %d", len(s), e)
		}
		checkEncode(t, l)
		if !checkDecode(t, s) {
			t.Errorf("%d bytes are no encoding", len(s))
		}
	}
	for _, l := range [][]string{columnOfBytes(t, 1), differentStrings(2000, 1000)} {
		first, runs := wantParts(l)
		checkIsNone(t, first+runs)
	}
}

// P10.1: what is not an encoding.
func TestDecodeErrors(t *testing.T) {
	most := strings.Repeat("x", 1000)
	for what, l := range map[string][]string{
		"a number is missing":                  {"", "\x01", "\x00", "\x01\x01", "\x01\x01\x00", "\x01\x01\x00\x01a", "\x01\x01\x00\x01a\x00", "\x02\x02\x00\x01a\x00\x01b\x00\x00", "\x02\x02\x00\x01a\x00\x01b\x00\x00\x01", "\x02\x01\x00\x01a\x00\x00"},
		"a number is cut":                      {"\x80", "\x01\x81", "\x01\x01\x80", "\x01\x01\x00\x81", "\x01\x01\x00\x01a\x80", "\x01\x01\x00\x01a\x00\x80"},
		"a number has more bytes than needed":  {"\x80\x00\x00", "\x81\x00\x01\x00\x01a\x00\x00", "\x00\x80\x00", "\x01\x81\x00\x00\x01a\x00\x00", "\x01\x01\x80\x00\x01a\x00\x00", "\x01\x01\x00\x81\x00a\x00\x00", "\x01\x01\x00\x01a\x80\x00\x00", "\x01\x01\x00\x01a\x00\x80\x00"},
		"a number is too great for layer 1":    {plain(1<<60+1) + "\x00", "\x00" + plain(1<<60+1), "\x01\x01" + plain(1<<60+1) + "\x01a\x00\x00", strings.Repeat("\x80", 9) + "\x01", "\x01\x01\x00\x01a\x00" + plain(1<<60+1)},
		"bytes are missing":                    {"\x01\x01\x00\x01", "\x01\x01\x00\x02a", "\x01\x01\x00\x03a\x00", "\x01\x01\x00\x04a\x00\x00", "\x01\x01\x00\xe8\x07" + most[:999]},
		"bytes are left":                       {"\x00\x00\x00", "\x00\x00x", "\x01\x01\x00\x01a\x00\x00\x00", "\x01\x01\x00\x01a\x00\x00\x00\x00", "\x02\x01\x00\x01a\x00\x01\x00\x00"},
		"too many strings":                     {"\xd1\x0f\x01\x00\x00\x00\xd0\x0f", plain(1<<60, 1, 0, 0, 0, 1<<60-1), plain(2001, 0)},
		"a string is too long":                 {plain(1, 1, 0, 1001) + most + "x\x00\x00", plain(2, 2, 0, 1000) + most + plain(1000, 1) + "x\x00\x00\x01\x00", plain(2, 2, 0, 500) + most[:500] + plain(500, 501) + most[:501] + "\x00\x00\x01\x00", plain(1, 1, 0, 1<<60) + "a\x00\x00", plain(2, 2, 0, 1) + "a" + plain(1, 1<<60) + "b\x00\x00\x01\x00"},
		"no dictionary, or too long":           {"\x01\x00", "\x01\x00\x00\x00", "\x00\x01\x00\x00", "\x00\x01\x00\x00\x00\x00", "\x01\x02\x00\x01a\x00\x01b\x00\x00", "\x01\x02\x00\x01a\x00\x01b\x01\x00", plain(1, 1<<60, 0, 0, 0, 0), plain(2000, 2001)},
		"a string of the dictionary is unused": {"\x02\x02\x00\x01a\x00\x01b\x00\x01", "\x02\x02\x00\x01a\x00\x01b\x01\x01", "\x03\x03\x00\x01a\x00\x01b\x00\x01c\x00\x00\x02\x01", "\x03\x03\x00\x01a\x00\x01b\x00\x01c\x00\x00\x01\x00\x00\x00"},
		"the dictionary does not ascend":       {"\x02\x02\x00\x01b\x00\x01a\x00\x00\x01\x00", "\x02\x02\x00\x01a\x00\x00\x00\x00\x01\x00", "\x02\x02\x00\x01\x80\x00\x01\x7f\x00\x00\x01\x00", "\x02\x02\x00\x02ab\x01\x00\x00\x00\x01\x00", "\x02\x02\x00\x02ab\x01\x01a\x00\x00\x01\x00"},
		"the dictionary has a string twice":    {"\x02\x02\x00\x01a\x01\x00\x00\x00\x01\x00", "\x02\x02\x00\x01a\x00\x01a\x00\x00\x01\x00", "\x02\x02\x00\x00\x00\x00\x00\x00\x01\x00", "\x02\x02\x00\x01a\x01\x00\x00\x01", "\x02\x02\x00\x01a\x01\x00\x01\x01"},
		"a shared prefix is too long":          {"\x01\x01\x01\x00\x00\x00", "\x01\x01\x01\x01a\x00\x00", "\x02\x02\x00\x01a\x02\x01b\x00\x00\x01\x00", "\x02\x02\x00\x01a" + plain(1<<60) + "\x01b\x00\x00\x01\x00", "\x03\x03\x00\x02ab\x00\x01b\x02\x01c\x00\x00\x01\x00\x02\x00"},
		"a shared prefix is too short":         {"\x02\x02\x00\x01a\x00\x02ab\x00\x00\x01\x00", "\x02\x02\x00\x02ab\x01\x02bc\x00\x00\x01\x00", "\x02\x02\x00\x02ab\x00\x02ac\x00\x00\x01\x00"},
		"a run has no string":                  {"\x01\x01\x00\x01a\x01\x00", "\x01\x01\x00\x01a" + plain(1<<60) + "\x00", "\x02\x02\x00\x01a\x00\x01b\x00\x00\x02\x00", "\x02\x02\x00\x01a\x00\x01b\x02\x00\x00\x00"},
		"a run is too long":                    {"\x01\x01\x00\x01a\x00\x01", "\x01\x01\x00\x01a\x00" + plain(1<<60), "\x02\x02\x00\x01a\x00\x01b\x00\x00\x01\x01", "\x02\x02\x00\x01a\x00\x01b\x00\x02\x01\x00", "\x03\x02\x00\x01a\x00\x01b\x00\x00\x01\x02"},
		"a run is divided":                     {"\x02\x01\x00\x01a\x00\x00\x00\x00", "\x03\x02\x00\x01a\x00\x01b\x00\x00\x00\x00\x01\x00", "\x03\x02\x00\x01a\x00\x01b\x01\x00\x00\x00\x00\x00", "\x04\x02\x00\x01a\x00\x01b\x00\x00\x01\x00\x01\x01"},
	} {
		for _, s := range l {
			checkIsNone(t, s)
			if _, is := wantDecode(s); is {
				t.Errorf("%s: the test takes %q as an encoding", what, shortText(s))
			}
		}
	}
}

// P10.1: all short columns of some strings.
func TestShortColumns(t *testing.T) {
	long := strings.Repeat("x", 1001)
	limits := 0
	for _, l := range tuples(list("", "a", "ab", "abc", "b", "\x00", "\xff", long[1:], long), 4) {
		e := checkEncode(t, l)
		s, _ := Encode(l)
		if isEncoding := checkDecode(t, s); isEncoding != (e == api.OK) {
			t.Errorf("%.60q: %q, error %d", l, shortText(s), e)
		}
		if e == api.ErrLimit {
			limits++
		}
	}
	if limits != 2700 {
		t.Errorf("%d lists are no columns", limits)
	}
}

// P10.1: all short strings of some parts of encodings.
func TestShortStrings(t *testing.T) {
	counts := map[bool]int{}
	for _, begin := range list("", "\x01\x01\x00", "\x02\x01\x00", "\x02\x02\x00", "\x02\x02\x00\x01a", "\x03\x02\x00\x00\x00", "\x04\x03\x00\x00\x00\x01a\x01") {
		for _, l := range tuples(strings.Split("\x00\x01\x02\x03\x80ab", ""), 5) {
			counts[checkDecode(t, begin+strings.Join(l, ""))]++
		}
	}
	if counts[true] < 100 || counts[false] < 100000 {
		t.Errorf("%v", counts)
	}
}

// randomColumn returns a column of about n strings, of which many are equal or similar.
func randomColumn(random *rand.Rand, n int) []string {
	var choice []string
	for range 1 + random.Intn(8) {
		x := ""
		if len(choice) > 0 {
			x = choice[random.Intn(len(choice))]
			x = x[:random.Intn(len(x)+1)]
		}
		for range random.Intn(1 << random.Intn(5)) {
			x += string([]byte{"aab\x00\x01\x80\xff\xc3"[random.Intn(8)]})
		}
		choice = append(choice, x)
	}
	var l []string
	for range random.Intn(2 * n) {
		x := choice[random.Intn(len(choice))]
		if len(l) > 0 && random.Intn(2) == 0 {
			x = l[len(l)-1]
		}
		l = append(l, x)
	}
	return l
}

// P10.1: encodings of which a byte was changed, removed or added, or that were cut.
func TestChangedEncodings(t *testing.T) {
	random := rand.New(rand.NewSource(10))
	counts := map[bool]int{}
	for range 3000 {
		s, _ := Encode(randomColumn(random, 10))
		for range 5 {
			i := random.Intn(len(s))
			c := string([]byte{byte(random.Intn(256)) >> random.Intn(8)})
			for _, changed := range list(s[:i]+c+s[i+1:], s[:i], s[:i]+c+s[i:], s+c, s[:i]+s[i+1:]) {
				counts[checkDecode(t, changed)]++
			}
		}
	}
	if counts[true] < 3000 || counts[false] < 50000 {
		t.Errorf("%v", counts)
	}
}

// P10.1: the longest columns, and those that are longer.
func TestLimits(t *testing.T) {
	random := rand.New(rand.NewSource(10))
	for i := range 6 {
		long := differentStrings(2001, 200<<(i/4))
		if i%2 == 1 {
			random.Shuffle(2001, func(i, j int) { long[i], long[j] = long[j], long[i] })
		}
		if i%3 == 2 {
			long = slices.Repeat(randomColumn(random, 40), 2001)[:2001]
		}
		for _, l := range [][]string{long[:2000], long[1:]} {
			if e := checkEncode(t, l); e != api.OK {
				t.Errorf("error %d", e)
			}
			s, _ := Encode(l)
			checkDecode(t, s)
		}
		if s, e := Encode(long); s != "" || e != api.ErrLimit {
			t.Errorf("%d bytes, error %d", len(s), e)
		}
		first, runs := wantParts(long)
		checkIsNone(t, first+runs)
	}
}

// R3: arguments are not changed, also where there is room behind them, and results are new memory.
func TestMemory(t *testing.T) {
	random := rand.New(rand.NewSource(10))
	for range 300 {
		l := randomColumn(random, 20)
		around := slices.Concat(l, list("7", "8", "9"))
		s, _ := Encode(around[:len(l)])
		if !slices.Equal(around, slices.Concat(l, list("7", "8", "9"))) {
			t.Errorf("%q became %q", l, around)
		}
		decoded, _ := Decode(s)
		distinct, _ := Distinct(s)
		for _, result := range [][]string{decoded, distinct} {
			result = result[:cap(result)]
			for i := range result {
				result[i] = "changed"
			}
		}
		checkDecode(t, s)
	}
}

// stringsOf returns arbitrary strings, most of which begin with a part of the one before.
func stringsOf(b []byte) []string {
	var l []string
	before := ""
	for len(b) > 1 && len(l) < 2100 {
		shared, size, times := int(b[0]%16), int(b[0]/16%8), int(b[1]%8)
		if b[1] >= 250 {
			times = 1 << (b[1] - 244)
		}
		size = min(size, len(b)-2)
		x := before[:min(shared, len(before))] + string(b[2:2+size])
		if b[1] == 249 {
			x = strings.Repeat(x, 100)
		}
		l = append(l, slices.Repeat([]string{x}, times)...)
		b, before = b[2+size:], x
	}
	return l
}

// P10.1 to P10.6: arbitrary columns and strings.
func FuzzColumns(f *testing.F) {
	f.Add([]byte("\x10\x02b\x20\x01ab\x12\x01c"), "\x04\x03\x00\x02ab\x02\x01c\x00\x01b\x02\x01\x00\x00\x01\x00")
	f.Add([]byte("\x70\x010123456\x71\xf9abcdefg\x00\xfa\x00\xff\x01\x03"), "\x02\x02\x00\x01a\x00\x01b\x00\x00\x01\x00")
	f.Fuzz(func(t *testing.T, b []byte, s string) {
		checkDecode(t, s)
		checkCanonical(t, s)
		l := stringsOf(b)
		if checkEncode(t, l) == api.OK {
			checkColumn(t, l)
		}
	})
}

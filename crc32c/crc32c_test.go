package crc32c

import (
	"hash/crc32"
	"math"
	"math/bits"
	"math/rand"
	"slices"
	"strings"
	"testing"

	"lookout/api"
)

var castagnoli = crc32.MakeTable(crc32.Castagnoli)

// sumOf and updated are the checksums by the standard library.
func sumOf(s string) uint32 {
	return crc32.Checksum([]byte(s), castagnoli)
}

func updated(crc uint32, s string) uint32 {
	return crc32.Update(crc, castagnoli, []byte(s))
}

// product returns the product of two registers as polynomials, whose highest bit is the constant term.
func product(a, b uint32) uint32 {
	p := uint32(0)
	for i := 31; i >= 0; i-- {
		if a>>i&1 == 1 {
			p ^= b
		}
		low := b & 1
		b >>= 1
		if low == 1 {
			b ^= bits.Reverse32(0x1EDC6F41)
		}
	}
	return p
}

// shifted returns a register shifted by n bytes, which is its product with the power 8n of x.
func shifted(r uint32, n int) uint32 {
	x8 := uint32(1) << 23
	for ; n > 0; n /= 2 {
		if n%2 == 1 {
			r = product(r, x8)
		}
		x8 = product(x8, x8)
	}
	return r
}

func sealed(s string) string {
	crc := sumOf(s)
	return s + string([]byte{byte(crc), byte(crc >> 8), byte(crc >> 16), byte(crc >> 24)})
}

func everyByte() string {
	b := make([]byte, 256)
	for i := range b {
		b[i] = byte(i)
	}
	return string(b)
}

// mixed returns n bytes without a pattern, which depend on n only.
func mixed(n int) string {
	b := make([]byte, n)
	rand.New(rand.NewSource(int64(n))).Read(b)
	return string(b)
}

// samples returns strings of all kinds: short and long ones, of one byte, of all bytes, of equal bytes, and mixed ones.
func samples() []string {
	l := []string{"", "a", "abc", "abcd", "123456789", everyByte(), strings.Repeat("\x00", 32), strings.Repeat("\xff", 32), "ä\x80\xff€", "a\x00", "\x00a"}
	for i := range 256 {
		l = append(l, string([]byte{byte(i)}))
	}
	for n := 2; n <= 70; n++ {
		l = append(l, mixed(n))
	}
	for _, n := range []int{127, 128, 255, 256, 257, 1000, 4095, 4096, 4097, 65535, 65536, 65537, 1 << 20} {
		l = append(l, mixed(n))
	}
	return l
}

// registers returns registers with one bit and with all but one, and others.
func registers() []uint32 {
	l := []uint32{0, math.MaxUint32, 0x82F63B78, 0x1EDC6F41, 0xE3069283, 0x48674BC7, 0x12345678, 0xAAAAAAAA, 0x55555555}
	for i := range 32 {
		l = append(l, 1<<i, ^uint32(1<<i))
	}
	return l
}

// lengths returns the lengths near powers of two, and others.
func lengths() []int {
	l := []int{0, 1, 2, 3, 4, 5, 10, 100, 1000, 1234567890123456789, math.MaxInt - 2, math.MaxInt - 1, math.MaxInt}
	for shift := 2; shift < 63; shift++ {
		l = append(l, 1<<shift-1, 1<<shift, 1<<shift+1)
	}
	return l
}

func checkOpen(t *testing.T, s, content string, want api.Errno) {
	t.Helper()
	if u, e := Open(s); u != content || e != want {
		t.Errorf("Open of %d bytes: %d bytes, error %d instead of %d bytes, error %d", len(s), len(u), e, len(content), want)
	}
}

// flip returns s with one bit changed, which is counted from the least significant one of the first byte.
func flip(s string, bit int) string {
	b := []byte(s)
	b[bit/8] ^= 1 << (bit % 8)
	return string(b)
}

// burst returns s with the bits of a pattern changed, from a bit on; and whether they lie within s.
func burst(s string, from int, pattern uint32) (string, bool) {
	if from+bits.Len32(pattern) > 8*len(s) {
		return "", false
	}
	b := []byte(s)
	for i := range 32 {
		if pattern>>i&1 == 1 {
			b[(from+i)/8] ^= 1 << ((from + i) % 8)
		}
	}
	return string(b), true
}

// patterns returns changes of 1 to 32 bits in a row, the first and the last of which are changed, and between them all, none, or some.
func patterns() []uint32 {
	random := rand.New(rand.NewSource(1))
	l := []uint32{1}
	for last := 1; last < 32; last++ {
		ends := uint32(1)<<last | 1
		within := uint32(1)<<last - 1
		l = append(l, ends, ends|within, ends|within&0xAAAAAAAA, ends|within&0x55555555, ends|within&0x82F63B78, ends|within&0x05EC76F1)
		for range 4 {
			l = append(l, ends|within&random.Uint32())
		}
	}
	return l
}

// forEachChange calls f with all changes of s by a burst of patterns anywhere, and with many of an odd number of bits.
func forEachChange(s string, f func(changed string)) {
	for from := range 8 * len(s) {
		for _, pattern := range patterns() {
			if changed, ok := burst(s, from, pattern); ok {
				f(changed)
			}
		}
	}
	random := rand.New(rand.NewSource(int64(len(s))))
	for count := 1; count <= 8*len(s); count += 2 {
		for range 5 {
			changed := s
			for _, bit := range random.Perm(8 * len(s))[:count] {
				changed = flip(changed, bit)
			}
			f(changed)
		}
	}
}

// P2.1: the references that these tests use agree with what the chapter states.
func TestReferences(t *testing.T) {
	if sumOf("") != 0 || sumOf("123456789") != 0xE3069283 {
		t.Fatalf("%08X, %08X", sumOf(""), sumOf("123456789"))
	}
	for _, r := range registers() {
		for n := range 100 {
			if zeros := strings.Repeat("\x00", n); shifted(r, n) != ^updated(^r, zeros) {
				t.Fatalf("%08X shifted by %d: %08X", r, n, shifted(r, n))
			}
		}
		// The polynomial has the factor x + 1 and one of degree 31, so 2^31 - 1 bytes are one round.
		if shifted(r, 1<<31-1) != r || shifted(r, math.MaxInt) != shifted(r, 1) {
			t.Fatalf("%08X: %08X, %08X", r, shifted(r, 1<<31-1), shifted(r, math.MaxInt))
		}
	}
}

// P2.1: checksums.
func TestSum(t *testing.T) {
	for _, x := range []struct {
		s   string
		crc uint32
	}{
		{"", 0}, {"123456789", 0xE3069283}, {"a", 0xC1D04330}, {"\x00", 0x527D5351}, {"\xff", 0xFF000000},
		{"\x00\x00\x00\x00", 0x48674BC7}, {strings.Repeat("\x00", 32), 0x8A9136AA}, {strings.Repeat("\xff", 32), 0x62A8AB43},
	} {
		if crc := Sum(x.s); crc != x.crc {
			t.Errorf("%q: %08X", x.s, crc)
		}
	}
	for _, s := range samples() {
		if crc := Sum(s); crc != sumOf(s) {
			t.Errorf("%d bytes: %08X instead of %08X", len(s), crc, sumOf(s))
		}
	}
	for i := range 65536 {
		if s := string([]byte{byte(i), byte(i >> 8)}); Sum(s) != sumOf(s) {
			t.Errorf("%q: %08X", s, Sum(s))
		}
	}
}

// P2.1: registers that are updated, whether they are checksums of strings or not.
func TestUpdate(t *testing.T) {
	some := []string{"", "\x00", "\x01", "\x80", "\xff", "a", "123456789", everyByte(), mixed(1000)}
	for _, crc := range registers() {
		for _, s := range some {
			if got := Update(crc, s); got != updated(crc, s) {
				t.Errorf("%08X, %q: %08X instead of %08X", crc, s, got, updated(crc, s))
			}
		}
		if got := Update(crc, ""); got != crc {
			t.Errorf("%08X: %08X", crc, got)
		}
	}
	for _, s := range samples() {
		if got := Update(0x12345678, s); got != updated(0x12345678, s) {
			t.Errorf("%d bytes: %08X", len(s), got)
		}
	}
}

// P2.1: the register of the first string is shifted by any length, which takes few steps.
func TestCombine(t *testing.T) {
	for _, a := range registers() {
		for _, n := range lengths() {
			for _, b := range []uint32{a, 0xE3069283} {
				if got := Combine(a, b, n); got != shifted(a, n)^b {
					t.Errorf("%08X, %08X, %d: %08X instead of %08X", a, b, n, got, shifted(a, n)^b)
				}
			}
		}
	}
	for n := range 5000 {
		if got := Combine(0xE3069283, 7, n); got != shifted(0xE3069283, n)^7 {
			t.Errorf("%d: %08X", n, got)
		}
	}
	if got := Combine(0xE3069283, 0, 0); got != 0xE3069283 {
		t.Errorf("%08X", got)
	}
}

// P2.1: negative lengths.
func TestCombineNegative(t *testing.T) {
	for _, a := range registers() {
		for _, b := range []uint32{0, 1, a, math.MaxUint32} {
			for _, n := range []int{-1, -2, -3, -4, -1 << 31, -1<<32 - 1, -math.MaxInt, math.MinInt} {
				if got := Combine(a, b, n); got != 0 {
					t.Errorf("%08X, %08X, %d: %08X", a, b, n, got)
				}
			}
		}
	}
}

// P2.1: sealed strings.
func TestSeal(t *testing.T) {
	for _, x := range []struct{ s, sealed string }{
		{"", "\x00\x00\x00\x00"}, {"123456789", "123456789\x83\x92\x06\xe3"}, {"\x00\x00\x00\x00", "\x00\x00\x00\x00\xc7\x4b\x67\x48"},
	} {
		if s := Seal(x.s); s != x.sealed {
			t.Errorf("%q: %q", x.s, s)
		}
	}
	for _, s := range samples() {
		if Seal(s) != sealed(s) {
			t.Errorf("Seal of %d bytes ends with %q", len(s), Seal(s)[len(s):])
		}
	}
}

// P2.1: strings that are too short to be sealed, whatever they contain.
func TestOpenShort(t *testing.T) {
	for _, s := range []string{"", "\x00", "\x00\x00", "\x00\x00\x00", "\xff\xff\xff", "abc", Seal("")[:3], Seal("a")[:3], Seal("abc")[4:]} {
		checkOpen(t, s, "", api.ErrShort)
	}
	for i := range 256 {
		checkOpen(t, string([]byte{byte(i)}), "", api.ErrShort)
		checkOpen(t, string([]byte{byte(i), byte(i), byte(i)}), "", api.ErrShort)
	}
}

// P2.1: strings whose last four bytes are not the checksum of those before.
func TestOpenChecksum(t *testing.T) {
	for _, s := range []string{"abcd", "\x00\x00\x00\x00\x00", "\x00\x00\x00\x01", "\xff\xff\xff\xff", "123456789\xe3\x06\x92\x83", "\x83\x92\x06\xe3123456789", everyByte(), mixed(1000)} {
		checkOpen(t, s, "", api.ErrChecksum)
	}
	for _, s := range samples() {
		good := sealed(s)
		checkOpen(t, good, s, api.OK)
		checkOpen(t, good+"\x00", "", api.ErrChecksum)
		if len(s) > 0 {
			checkOpen(t, good[1:], "", api.ErrChecksum)
			checkOpen(t, good[:len(s)+3], "", shortOr(len(s)+3, api.ErrChecksum))
		}
	}
}

// shortOr returns ErrShort for strings that cannot be sealed ones, and e for others.
func shortOr(size int, e api.Errno) api.Errno {
	if size < 4 {
		return api.ErrShort
	}
	return e
}

// P2.1: each of the four last bytes counts.
func TestOpenLastBytes(t *testing.T) {
	for _, s := range []string{"", "a", "\x00", "123456789", everyByte()} {
		good := sealed(s)
		for at := len(s); at < len(good); at++ {
			for other := range 256 {
				changed := []byte(good)
				changed[at] = byte(other)
				if good[at] == byte(other) {
					checkOpen(t, string(changed), s, api.OK)
				} else {
					checkOpen(t, string(changed), "", api.ErrChecksum)
				}
			}
		}
	}
}

// P2.2: two strings one after the other, at every place where a string can be split.
func TestConcatenation(t *testing.T) {
	for _, s := range samples() {
		for _, at := range splits(len(s)) {
			a, b := Sum(s[:at]), Sum(s[at:])
			if crc := Update(a, s[at:]); crc != Sum(s) {
				t.Errorf("%d of %d bytes: Update %08X", at, len(s), crc)
			}
			if crc := Combine(a, b, len(s)-at); crc != Sum(s) {
				t.Errorf("%d of %d bytes: Combine %08X", at, len(s), crc)
			}
		}
	}
}

// splits returns where strings of a length are split: everywhere if they are short.
func splits(length int) []int {
	l := []int{0, length / 3, length / 2, length}
	for at := range min(length, 257) {
		if length <= 257 {
			l = append(l, at)
		}
	}
	slices.Sort(l)
	return slices.Compact(l)
}

// P2.3: the exclusive or of three strings.
func TestLinearity(t *testing.T) {
	for _, n := range []int{0, 1, 2, 3, 4, 5, 8, 31, 32, 33, 256, 1000} {
		random := rand.New(rand.NewSource(int64(n)))
		for range 20 {
			a, b, c, all := make([]byte, n), make([]byte, n), make([]byte, n), make([]byte, n)
			random.Read(a)
			random.Read(b)
			random.Read(c)
			for i := range all {
				all[i] = a[i] ^ b[i] ^ c[i]
			}
			x, y, z := Sum(string(a)), Sum(string(b)), Sum(string(c))
			if crc := Sum(string(all)); crc != x^y^z {
				t.Errorf("%q, %q, %q: %08X", a, b, c, crc)
			}
		}
	}
}

// P2.4: bursts of up to 32 bits anywhere, also across bytes and at both ends, and odd numbers of bits.
func TestChangedStrings(t *testing.T) {
	for _, s := range []string{"\x00", "a", "\xff\xff", "abc", "abcd", "\x00\x00\x00\x00\x00", "123456789", strings.Repeat("\x00", 16), strings.Repeat("\xff", 16), mixed(40)} {
		crc := Sum(s)
		forEachChange(s, func(changed string) {
			if Sum(changed) == crc {
				t.Errorf("%q and %q: %08X", s, changed, crc)
			}
		})
	}
}

// P2.4: bursts of exactly 32 bits at both ends of long strings, and in the middle.
func TestBurstsInLongStrings(t *testing.T) {
	for _, n := range []int{100, 1000, 5000} {
		s := mixed(n)
		crc := Sum(s)
		for _, from := range []int{0, 1, 7, 8, 4*n - 1, 4 * n, 4*n + 3, 8*n - 40, 8*n - 33, 8*n - 32} {
			for _, pattern := range patterns() {
				if changed, ok := burst(s, from, pattern); !ok || Sum(changed) == crc {
					t.Errorf("%d bytes, %08X from bit %d on", n, pattern, from)
				}
			}
		}
	}
}

// P2.4: the bound of 32 bits is sharp; the polynomial itself, of 33 bits, is not noticed.
func TestBurstOfThePolynomial(t *testing.T) {
	s := mixed(20)
	for from := range 8*len(s) - 32 {
		// The first bit is that of the highest power, which the constant of the polynomial leaves out.
		changed, _ := burst(flip(s, from), from+1, bits.Reverse32(0x1EDC6F41))
		if Sum(changed) != Sum(s) {
			t.Errorf("from bit %d on: %08X instead of %08X", from, Sum(changed), Sum(s))
		}
	}
}

// P2.5: opening sealed strings, also those that were sealed several times.
func TestOpenSealed(t *testing.T) {
	for _, s := range samples() {
		once := Seal(s)
		twice := Seal(once)
		checkOpen(t, once, s, api.OK)
		checkOpen(t, twice, once, api.OK)
		if len(once) != len(s)+4 || len(twice) != len(s)+8 {
			t.Errorf("%d bytes: sealed %d, twice %d", len(s), len(once), len(twice))
		}
	}
}

// P2.5: the checksum of a sealed string.
func TestSumOfSealed(t *testing.T) {
	for _, s := range samples() {
		if crc := Sum(Seal(s)); crc != 0x48674BC7 {
			t.Errorf("%d bytes: %08X", len(s), crc)
		}
	}
}

// P2.5: sealed strings that were changed in the string, in the seal, or across both.
func TestOpenChanged(t *testing.T) {
	for _, s := range []string{"", "a", "\x00\x00", "abc", "123456789", strings.Repeat("\xff", 16), mixed(20)} {
		forEachChange(Seal(s), func(changed string) {
			checkOpen(t, changed, "", api.ErrChecksum)
		})
	}
	for _, n := range []int{100, 5000} {
		s := Seal(mixed(n))
		for _, from := range []int{0, 1, 7, 8, 4 * n, 4*n + 3, 8*n - 17, 8*n - 1, 8 * n} {
			for _, pattern := range patterns() {
				changed, _ := burst(s, from, pattern)
				checkOpen(t, changed, "", api.ErrChecksum)
			}
		}
	}
}

// P2.6: three checksums in either grouping.
func TestAssociativity(t *testing.T) {
	some := []uint32{0, 1, 0x80000000, 0xE3069283, math.MaxUint32}
	sizes := []int{0, 1, 2, 3, 9, 255, 4096, 1<<31 - 1, 1 << 31, 1 << 40, 1<<60 + 1, 1 << 61, 1<<62 - 1}
	for i, a := range some {
		for j, b := range some {
			c := some[(i+2*j)%len(some)]
			for _, n := range sizes {
				for _, m := range sizes {
					left := Combine(Combine(a, b, n), c, m)
					right := Combine(a, Combine(b, c, m), n+m)
					if left != right {
						t.Errorf("%08X, %08X, %08X, %d, %d: %08X and %08X", a, b, c, n, m, left, right)
					}
				}
			}
		}
	}
}

// P2.6: the checksums of three strings in either grouping are that of all of them.
func TestThreeStrings(t *testing.T) {
	s := everyByte()
	for i := 0; i <= len(s); i += 5 {
		for j := i; j <= len(s); j += 3 {
			a, b, c := Sum(s[:i]), Sum(s[i:j]), Sum(s[j:])
			left := Combine(Combine(a, b, j-i), c, len(s)-j)
			right := Combine(a, Combine(b, c, len(s)-j), len(s)-i)
			if left != sumOf(s) || right != sumOf(s) {
				t.Errorf("%d, %d: %08X and %08X", i, j, left, right)
			}
		}
	}
}

// P2.1, P2.2 and P2.5: for arbitrary bytes, the results are those of the standard library.
func FuzzSum(f *testing.F) {
	f.Add("", "", 0)
	f.Add("12345", "6789", math.MaxInt)
	f.Add("", "\x00\x00\x00\x00", -1)
	f.Fuzz(func(t *testing.T, a, b string, n int) {
		x, y := sumOf(a), sumOf(b)
		if Sum(a) != x || Update(x, b) != sumOf(a+b) || Combine(x, y, len(b)) != sumOf(a+b) {
			t.Errorf("%q, %q: %08X, %08X, %08X", a, b, Sum(a), Update(x, b), Combine(x, y, len(b)))
		}
		if n < 0 && Combine(x, y, n) != 0 || n >= 0 && Combine(x, y, n) != shifted(x, n)^y {
			t.Errorf("%08X, %08X, %d: %08X", x, y, n, Combine(x, y, n))
		}
		checkOpen(t, Seal(a), a, api.OK)
		want := api.ErrChecksum
		if len(a) >= 4 && sealed(a[:len(a)-4]) == a {
			want = api.OK
		}
		if _, e := Open(a); e != shortOr(len(a), want) {
			t.Errorf("Open(%q): error %d", a, e)
		}
	})
}

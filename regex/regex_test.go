package regex

import (
	"math/rand"
	"slices"
	"strings"
	"testing"

	"lookout/api"
)

// none is a class that stands for no byte.
const none = "[^\x00-\xff]"

// texts returns all strings of at most n of some bytes, the shorter ones first.
func texts(bytes string, n int) []string {
	all := []string{""}
	last := all
	for range n {
		var next []string
		for _, s := range last {
			for i := range len(bytes) {
				next = append(next, s+bytes[i:i+1])
			}
		}
		all = append(all, next...)
		last = next
	}
	return all
}

// allBytes returns a string of all bytes in ascending order.
func allBytes() string {
	var b []byte
	for c := range 256 {
		b = append(b, byte(c))
	}
	return string(b)
}

// checkForm tests the functions of an expression alone.
func checkForm(t *testing.T, p string, k known) {
	t.Helper()
	if e, want := Check(p), wantCheck(p, k); e != want {
		t.Errorf("%q: error %d instead of %d", p, e, want)
	}
	if empty := Empty(p); empty != k.empty {
		t.Errorf("%q is empty: %v", p, empty)
	}
	if prefix, only := Prefix(p); prefix != k.prefix || only != k.only {
		t.Errorf("%q: prefix %q, %v instead of %q, %v", p, prefix, only, k.prefix, k.only)
	}
}

// checkAll tests all functions of an expression, and returns whether it is one.
func checkAll(t *testing.T, p string, strings []string) bool {
	t.Helper()
	k := know(p)
	checkForm(t, p, k)
	match, find := wantMatch(k), wantFind(k)
	for _, s := range strings {
		if is := Match(p, s); is != match(s) {
			t.Errorf("%q matches %q: %v", p, s, is)
		}
		f, is := Find(p, s)
		if want, wantIs := find(s); f != want || is != wantIs {
			t.Errorf("%q in %q: %v, %v instead of %v, %v", p, s, f, is, want, wantIs)
		}
	}
	return k.valid
}

// P6.1: which strings are regular expressions.
func TestCheck(t *testing.T) {
	for _, p := range []string{
		"", "|", "||", "()", "(|)", "a|", "|a", "a||b", "(())", "()()", "()*", "(|)+", "(a||b)?", "(a)(b)*c",
		"^", "$", "^a$", "a^b$c", "^*", "$+", "{", "}", "a{2}", "-", "a-b", "/", ",", "\"", "'", "<>", "&", "%", "#", "!", "~", "`", "=", ":", ";", "@", "_",
		".", "..", ".*", ".+.", ".?", "a*b+c?", "a*|b+|c?", "(a*)*", "((a+)+)+", "((a?)?)?", "(a*)+", "[a]*", "\\.*", "\\d+", "\\w?",
		"\\n", "\\t", "\\d", "\\w", "\\.", "\\[", "\\]", "\\(", "\\)", "\\|", "\\*", "\\+", "\\?", "\\\\", "\\^", "\\-", "\\_", "\\ ", "\\\n", "\\\x00", "\\\x80", "\\\xff", "\\\\\\\\", "\\\\*",
		"[a]", "[^a]", "[^^]", "[a^]", "[^a^]", "[[]", "[[a]", "[(]", "[)]", "[|]", "[*]", "[*+?.]", "[.]", "[$]", "[-]", "[^-]", "[--]", "[---]", "[-a]", "[a-]", "[^-a]", "[^a-]", "[a-c-e]", "[a-c-]", "[+--]", "[a-a]", "[\\n]", "[\\t-\\n]", "[\\--/]", "[!-\\-]", "[a\\-z]", "[\\]]", "[\\[-\\]]", "[\\\\]", "[Z-\\\\]", "[\\^]", "[^\\^]", "[\\^-a]", "[\x00-\xff]", none, "[\n]", "[\\\n]", "[\x80\xff]",
		"\x00", "\x7f", "\x80", "\xff", "\xc3", "é", "日", "\n", "\t", "\r", " ",
	} {
		if e := Check(p); e != api.OK || wantCheck(p, know(p)) != api.OK {
			t.Errorf("%q: error %d", p, e)
		}
	}
	for _, p := range []string{
		"*", "+", "?", "*a", "+a", "?a", "|*", "a|+", "(*)", "(?a)", "(a|*b)", "()(+)", "a**", "a*+", "a*?", "a+*", "a++", "a+?", "a?*", "a?+", "a??", "()**", "[a]*+", "\\.?*", "\\d**", ".**", "((a)*)**", "a***",
		"(", ")", "((", "))", ")(", "(a", "a)", "(a))", "((a)", "(a|b", "a|b)", "(()", "())", "(a*", "a*)", "([)]", "(\\)", "|(", "|)",
		"]", "a]", "]a", "[a]]", "(])", "[]", "[^]", "[]a]", "[^]a]", "[^]]", "[]]", "[^]-]", "[", "[^", "[a", "[^a", "[a-", "[a-b", "[-", "[--", "[a]b[", "[a-][", "[\\]", "[a\\]", "[a-\\]", "[", "a[", "([a)", "[(]*)",
		"[b-a]", "[a-b-\\d]", "[a-cc-b]", "[\xff-\x00]", "[\x80-\x7f]", "[a--]", "[\\n-\\t]", "[b-a]|c", "a|[b-a]", "[z-\\^]", "[\\^-\\[]", "[^b-a]",
		"[\\d]", "[\\w]", "[^\\d]", "[a\\w]", "[\\d-z]", "[a-\\d]", "[a-\\w]", "[\\d-\\w]", "[\\n-\\w]", "[\\a]", "[\\1]", "[a-\\z]", "[\\", "[a\\", "[a-\\",
		"\\", "a\\", "\\\\\\", "(\\", "\\a", "\\b", "\\N", "\\T", "\\D", "\\W", "\\A", "\\Z", "\\z", "\\r", "\\s", "\\x", "\\0", "\\1", "\\9", "a\\b", "(\\s)", "\\d\\s", "a|\\b",
	} {
		if e := Check(p); e != api.ErrSyntax || wantCheck(p, know(p)) != api.ErrSyntax {
			t.Errorf("%q: error %d", p, e)
		}
		for _, q := range []string{p, "a" + p, p + "|", "b|" + p} {
			checkAll(t, q, []string{"", "a", q})
		}
	}
}

// P6.1: expressions of 200 and 201 bytes, among them some that are none.
func TestLongExpressions(t *testing.T) {
	long := func(first, repeated, last string) string {
		return first + strings.Repeat(repeated, (200-len(first)-len(last))/len(repeated)) + last
	}
	for _, p := range []string{long("", "a", ""), long("", "|", ""), long("", "()", ""), long("", "a*", ""), long("", ".", ""), long("", "\xff", ""), long("", "\\.", ""), long("[", "a", "]"), long("[^", "a", "]"), long("[aa", "-b", "]"), long("", "[a]+", ""), long("", "(a)*", ""), long("", "[\x00-\xff]", "aaaaa"), long("", "\x00", "")} {
		if len(p) != 200 || Check(p) != api.OK || Check(p+"a") != api.ErrLimit || Check(p+"(") != api.ErrLimit || Check("*"+p) != api.ErrLimit {
			t.Errorf("%q: errors %d and %d", p, Check(p), Check(p+"a"))
		}
		checkAll(t, p, []string{"", "a", strings.Repeat("a", 199), strings.Repeat("a", 200), strings.Repeat(".", 100)})
		checkAll(t, p+"a", []string{"", "a", strings.Repeat("a", 201)})
	}
	for _, p := range []string{long("", "(", ""), long("", "*", ""), long("[", "a", ""), long("(", "a", ""), long("a", "a", ")"), long("a", "a", "\\"), long("", "\\a", ""), long("", "]", "")} {
		if len(p) != 200 || Check(p) != api.ErrSyntax || Check(p+"(") != api.ErrLimit || Check(p+p) != api.ErrLimit {
			t.Errorf("%q: errors %d and %d", p, Check(p), Check(p+"("))
		}
		checkAll(t, p, []string{"", "a", p})
	}
	for n := range 101 {
		nested := strings.Repeat("(", n) + "a" + strings.Repeat(")", n)
		checkAll(t, nested, []string{"", "a", "aa"})
		checkAll(t, nested[1:]+"a", []string{"", "a", "aa"})
		checkAll(t, strings.Repeat("(", n/2)+"a"+strings.Repeat(")*", n/2), []string{"", "a", "aa", "ab"})
	}
}

// P6.1: all expressions of few bytes, with all strings of few bytes.
func TestShortExpressions(t *testing.T) {
	strings := texts("ab", 3)
	valid := 0
	for _, p := range texts("ab()|*+?", 5) {
		if checkAll(t, p, strings) {
			valid++
		}
	}
	if valid < 2000 {
		t.Errorf("%d expressions", valid)
	}
}

// P6.1: all texts of few bytes that begin as a class.
func TestShortClasses(t *testing.T) {
	strings := append(eachByteOf("]^-\\acbnd[\n\x00\xff"), "", "aa", "ba", "a]", "--")
	valid := 0
	for _, p := range append(texts("]^-\\ac", 5), texts("]^-\\an[\xff", 4)...) {
		if checkAll(t, "["+p, strings) {
			valid++
		}
	}
	if valid < 1000 {
		t.Errorf("%d classes", valid)
	}
	for _, p := range texts("]^-\\d[.*", 3) {
		checkAll(t, "[a"+p, strings)
		checkAll(t, "x[^+"+p+"]", strings)
	}
}

func eachByteOf(s string) []string {
	var all []string
	for i := range len(s) {
		all = append(all, s[i:i+1])
	}
	return all
}

// P6.1: each byte, as itself, behind a backslash, and in classes.
func TestBytes(t *testing.T) {
	bytes := eachByteOf(allBytes())
	for _, c := range bytes {
		for _, p := range []string{c, "\\" + c, "[^" + c + "]", "[\\" + c + "]", "[\x00-" + c + "]"} {
			checkAll(t, p, bytes)
		}
		for _, p := range []string{c + "*", "a" + c + "b", "\\" + c + "+", "(" + c + ")", "[a\\" + c + "b]", "[-\\" + c + "]", "[\\" + c + "-]", c + "|" + c, "a" + c, c + "a", "[" + c + "]", "[^\\" + c + "]", "[" + c + "-" + c + "]", "[a-" + c + "]", "[\\" + c + "-a]", "[" + c + "-\xff]", "[a" + c + "]", "[a" + c + "b]", "[^a" + c + "b]", "[" + c + "a]"} {
			checkAll(t, p, []string{"", c, c + c, "a" + c + "b", "ab", "aa" + c, c + "a", "-", "a", "b", "`", "\n", "\xff", "\x00", "^", string([]byte{c[0] - 1}), string([]byte{c[0] + 1})})
		}
	}
	if len(bytes) != 256 {
		t.Errorf("%d bytes", len(bytes))
	}
}

// P6.1: what escapes, full stops and classes stand for.
func TestAtoms(t *testing.T) {
	digits, letters := "0123456789", "ABCDEFGHIJKLMNOPQRSTUVWXYZabcdefghijklmnopqrstuvwxyz"
	for p, want := range map[string]string{
		".": allBytes(), "\\d": digits, "\\w": digits + letters + "_", "\\n": "\n", "\\t": "\t", "\\.": ".", "\\\n": "\n", "\\\x00": "\x00", "\\\xff": "\xff", "^": "^", "$": "$", "\n": "\n", "\x00": "\x00",
		"[a]": "a", "[a-c]": "abc", "[a-a]": "a", "[a-cb-d]": "abcd", "[a-]": "a-", "[-a]": "-a", "[-]": "-", "[--]": "-", "[---]": "-", "[+--]": "+,-", "[a-c-e]": "abc-e", "[*--.]": "*+,-.", "[a^]": "a^", "[\\^a]": "^a", "[^\x01-\xff]": "\x00", "[^\x00-\xfe]": "\xff", "[^\\\x00-\tb-\xff\\n-a]": "", none: "", "[^\x00-`b-\xff]": "a",
		"[\\]a]": "]a", "[\\\\]": "\\", "[\\n\\t]": "\n\t", "[\\t-\\n]": "\t\n", "[\\--/]": "-./", "[+-\\-]": "+,-", "[\\+-\\-]": "+,-", "[.*+?|()[]": ".*+?|()[", "[$^]": "$^", "[nd\\n]": "nd\n", "[a\\-c]": "a-c", "[\x80-\x82]": "\x80\x81\x82", "[é]": "\xc3\xa9", "[.-0]": "./0", "[\x00-\x02]": "\x00\x01\x02", "[\xfd-\xff]": "\xfd\xfe\xff",
	} {
		for _, c := range eachByteOf(allBytes()) {
			if is := Match(p, c); is != strings.Contains(want, c) {
				t.Errorf("%q matches %q: %v", p, c, is)
			}
			if !strings.HasPrefix(p, "[^") && len(p) > 2 && p[0] == '[' && Match("[^"+p[1:], c) == Match(p, c) {
				t.Errorf("%q and its inversion: %q", p, c)
			}
		}
		for _, s := range []string{"", want + want + "a", "aa"} {
			if Match(p, s) {
				t.Errorf("%q matches %q", p, s)
			}
		}
	}
}

// P6.1: whole strings, with the operators and their precedence, and the examples of the chapter.
func TestMatch(t *testing.T) {
	for _, c := range []struct {
		p       string
		yes, no []string
	}{
		{"a(b|c)*d", []string{"ad", "abd", "acbcd"}, []string{"abc", "", "a", "d", "aad", "abdd", "bd"}},
		{"", []string{""}, []string{"a", "\n", "\x00"}}, {"()", []string{""}, []string{"a", "()"}}, {"|", []string{""}, []string{"|"}}, {"a|", []string{"", "a"}, []string{"aa", "a|"}}, {"a||b", []string{"", "a", "b"}, []string{"ab"}}, {"(|a)b", []string{"b", "ab"}, []string{"", "a", "aab"}}, {"()*", []string{""}, []string{"a"}}, {"(|)+", []string{""}, []string{"a"}},
		{"ab|cd", []string{"ab", "cd"}, []string{"abd", "acd", "abcd", "a", ""}}, {"ab*", []string{"a", "abb"}, []string{"", "abab", "b"}}, {"(ab)*", []string{"", "ab", "abab"}, []string{"a", "abb", "aba"}}, {"(ab)+", []string{"ab", "ababab"}, []string{"", "abba"}}, {"a|b*", []string{"", "a", "b", "bb"}, []string{"aa", "ab"}}, {"(a|b)*", []string{"", "abba"}, []string{"abc"}}, {"ab?c", []string{"ac", "abc"}, []string{"a", "abbc", "bc"}}, {"a+b+", []string{"ab", "aabb"}, []string{"a", "b", "ba"}},
		{"(a*)*", []string{"", "a", "aaa"}, []string{"b", "ab"}}, {"(a?)+", []string{"", "a", "aaa"}, []string{"b"}}, {"(a*b*)*", []string{"", "abba", "bab"}, []string{"c", "abc"}}, {"(a*)+b", []string{"b", "aab"}, []string{"", "aa", "ba"}}, {"((a|b*)+c?)*", []string{"", "abcbc", "ccc"}, []string{"d"}}, {"(a|ab)(c|bcd)", []string{"ac", "abc", "abcd", "abbcd"}, []string{"abcdd", "a", "acd"}}, {"(a+)?", []string{"", "a", "aa"}, []string{"b"}}, {"((a?)?)?b", []string{"b", "ab"}, []string{"aab"}},
		{"^a$", []string{"^a$"}, []string{"a", ""}}, {"a{2}", []string{"a{2}"}, []string{"aa"}}, {"a-b", []string{"a-b"}, []string{"a", "b"}}, {".", []string{"\n", "\x00", "\xff"}, []string{"", "é"}}, {"..", []string{"é", "\n\n"}, []string{"a", "aaa"}}, {"é", []string{"\xc3\xa9"}, []string{"\xc3", "\xe9"}}, {"é*", []string{"\xc3", "\xc3\xa9\xa9"}, []string{"éé"}}, {"a\nb", []string{"a\nb"}, []string{"ab", "a"}}, {"\x00*", []string{"", "\x00\x00"}, []string{"0"}}, {"\xff+\x80", []string{"\xff\x80"}, []string{"\xff", "\x80"}},
		{none + "|a", []string{"a"}, []string{"", "b"}}, {"(" + none + ")*a", []string{"a"}, []string{"aa", ""}}, {none + "?", []string{""}, []string{"a", "\x00"}}, {none + "+", nil, []string{"", "a"}},
	} {
		for _, s := range c.yes {
			if !Match(c.p, s) {
				t.Errorf("%q does not match %q", c.p, s)
			}
		}
		for _, s := range c.no {
			if Match(c.p, s) {
				t.Errorf("%q matches %q", c.p, s)
			}
		}
		checkAll(t, c.p, append(c.yes, c.no...))
	}
}

// P6.4: the leftmost longest part.
func TestFind(t *testing.T) {
	for _, c := range []struct {
		p, s       string
		start, end int
		is         bool
	}{
		{"b+", "abbabbb", 1, 3, true}, {"b+", "", 0, 0, false}, {"b+", "acd", 0, 0, false}, {"b", "bb", 0, 1, true}, {"b*", "abb", 0, 0, true}, {"b*", "bba", 0, 2, true}, {"", "", 0, 0, true}, {"", "abc", 0, 0, true}, {"()*", "a", 0, 0, true}, {"a?", "ba", 0, 0, true},
		{"a|ab|abcd", "xabc", 1, 3, true}, {"a|ab|abcd", "xabcd", 1, 5, true}, {"abcd|bc", "xabce", 2, 4, true}, {"abcd|c", "abcc", 2, 3, true}, {"abcde|bc|d", "abcdf", 1, 3, true}, {"(ab)*", "ababa", 0, 4, true}, {"(ab)+c|b", "ababab", 1, 2, true}, {"(ab)+c|b", "xababc", 1, 6, true}, {"aaab|aa|a", "caaac", 1, 3, true}, {"a.*c|b", "ab", 1, 2, true}, {"a.*c|b", "xabcbcb", 1, 6, true},
		{"ab|bcdef|c", "abcdef", 0, 2, true}, {"a.*|b", "cba", 1, 2, true}, {"a.*z|b.*y|c", "abcyy", 1, 5, true}, {"c$", "abc$", 2, 4, true}, {"^", "a^", 1, 2, true}, {"[^a]+", "aabca", 2, 4, true}, {"\\n", "a\nb", 1, 2, true}, {"\x00", "ab\x00", 2, 3, true}, {"\xa9", "é", 1, 2, true}, {".", "é", 0, 1, true}, {none, "abc", 0, 0, false}, {none + "|", "abc", 0, 0, true}, {none + "|c", "abc", 2, 3, true},
	} {
		if f, is := Find(c.p, c.s); is != c.is || f.Start != c.start || f.End != c.end {
			t.Errorf("%q in %q: %v, %v", c.p, c.s, f, is)
		}
		checkAll(t, c.p, []string{c.s, c.s + c.s, "a" + c.s + "b"})
	}
}

// P6.5: prefixes, by the form of the expressions.
func TestPrefix(t *testing.T) {
	for _, c := range []struct {
		p, prefix string
		only      bool
	}{
		{"", "", true}, {"a", "a", true}, {"abc", "abc", true}, {"ab.c", "ab", false}, {"^a$", "^a$", true}, {"a\x00\xff\n", "a\x00\xff\n", true}, {"a\\n\\t\\.\\\\\\|\\_\\\xff", "a\n\t.\\|_\xff", true}, {"a\\d", "a", false}, {"a\\wb", "a", false}, {"\\d", "", false}, {".", "", false}, {".a", "", false},
		{"ab*", "a", false}, {"ab+", "a", false}, {"ab?", "a", false}, {"ab*c", "a", false}, {"a*", "", false}, {"a+b", "", false}, {"a\\.*", "a", false}, {"a\\n+", "a", false}, {"abc\\+d?", "abc+", false}, {"a[b]", "a", false}, {"[a]", "", false}, {"a[b-b]c", "a", false}, {"a" + none, "a", false}, {"a[^b]", "a", false},
		{"a|b", "", false}, {"ab|ab", "", false}, {"|", "", false}, {"a|", "", false}, {"|a", "", false}, {"ab|(c)", "", false}, {"a(b)|c", "", false}, {"a[|]|c", "", false}, {"a(b|c)", "a", false}, {"a(b|c)|d", "", false}, {"a[|]", "a", false}, {"a[b|c]d", "a", false}, {"a\\|b", "a|b", true}, {"(a|b)", "", false}, {"(a)", "", false}, {"a(b)", "a", false}, {"a()", "a", false}, {"()", "", false}, {"()a", "", false}, {"ab(c)*", "ab", false}, {"a((b|c)d)", "a", false},
		{"(", "", false}, {"a**", "", false}, {"ab\\", "", false}, {"ab[", "", false}, {"abc)", "", false}, {"ab\\x", "", false}, {strings.Repeat("a", 200), strings.Repeat("a", 200), true}, {strings.Repeat("a", 201), "", false}, {strings.Repeat("\\.", 100), strings.Repeat(".", 100), true},
	} {
		if prefix, only := Prefix(c.p); prefix != c.prefix || only != c.only {
			t.Errorf("%q: %q, %v", c.p, prefix, only)
		}
		checkForm(t, c.p, know(c.p))
	}
}

// P6.3: quoted strings, also ones that are no expressions since they are too long.
func TestQuote(t *testing.T) {
	for s, want := range map[string]string{
		"": "", "a": "a", "a.b": "a\\.b", ".[]()|*+?\\": "\\.\\[\\]\\(\\)\\|\\*\\+\\?\\\\", "^$-{}_,/\"' ": "^$-{}_,/\"' ", "a\nb\tc": "a\nb\tc", "\x00\x7f\x80\xff": "\x00\x7f\x80\xff", "é日": "é日", "\\n\\d": "\\\\n\\\\d", "[a-b]": "\\[a-b\\]", "\\\\": "\\\\\\\\", strings.Repeat("a", 300): strings.Repeat("a", 300), strings.Repeat("+", 300): strings.Repeat("\\+", 300),
	} {
		if q := Quote(s); q != want {
			t.Errorf("%q: %q", s, q)
		}
	}
	for n := range 300 {
		checkQuoted(t, strings.Repeat("a", n))
		checkQuoted(t, strings.Repeat("*", n))
		checkQuoted(t, strings.Repeat("*", n)+"aaaa")
	}
	for _, s := range append(texts(".[]()|*+?\\^$-{na\n\xff", 3), allBytes()[:128], allBytes()[128:], allBytes()) {
		checkQuoted(t, s)
	}
}

// checkQuoted tests that a quoted string is an expression for the string alone, unless it is too long.
func checkQuoted(t *testing.T, s string) {
	t.Helper()
	q := Quote(s)
	if len(q) > 200 {
		if Check(q) != api.ErrLimit || Match(q, s) {
			t.Errorf("%q: error %d", q, Check(q))
		}
		return
	}
	prefix, only := Prefix(q)
	if Check(q) != api.OK || prefix != s || !only || Empty(q) || !Match(q, s) {
		t.Errorf("%q: %q, %v", q, prefix, only)
	}
	if Match(q, s+"a") || Match(q, "a"+s) || s != "" && (Match(q, s[1:]) || Match(q, "")) {
		t.Errorf("%q matches more than %q", q, s)
	}
	if f, is := Find(q, s+s); !is || f != (api.Found{End: len(s)}) {
		t.Errorf("%q: %v, %v", q, f, is)
	}
}

// P6.6: which expressions match nothing.
func TestEmpty(t *testing.T) {
	for p, want := range map[string]bool{
		"": false, "a": false, ".": false, "()": false, "\\d": false, "[^a]": false, "a*": false, none: true, "(" + none + ")": true, "((" + none + "))": true, "[^\x00-\x7f\x80-\xff]": true, "[^\\\x00-\\\xff]": true, "[^\x00-\xfe]": false, "[^\x01-\xff]": false, "[^\x00-`b-\xff]": false,
		none + "*": false, none + "?": false, none + "+": true, "(" + none + ")*": false, "(" + none + ")?": false, "(" + none + ")+": true, "(" + none + "*)+": false, "(" + none + "+)*": false, "(" + none + "?)+": false, "((" + none + ")+)+": true,
		"a" + none: true, none + "a": true, "a" + none + "b": true, "a*" + none: true, "a" + none + "*": false, "a" + none + "+": true, "a(b" + none + ")": true, "a(b" + none + ")?": false, none + "*" + none: true,
		none + "|": false, "|" + none: false, none + "|a": false, "a|" + none: false, none + "|" + none: true, none + "|" + none + "|a": false, none + "a|b" + none: true, "(" + none + "|a)b": false, "(" + none + "|" + none + ")b": true, "(" + none + "|a)" + none: true, "(" + none + "a|b" + none + ")+": true,
		"(" + none: false, none + ")": false, none + "**": false, none + strings.Repeat("a", 200): false,
	} {
		if is := Empty(p); is != want {
			t.Errorf("%q: %v", p, is)
		}
		checkAll(t, p, texts("ab\x00\xff", 2))
	}
	for _, p := range texts("ab()|*+", 5) {
		q := strings.ReplaceAll(p, "b", none)
		checkForm(t, q, know(q))
	}
}

// random returns a text of at most n pieces.
func random(r *rand.Rand, pieces []string, n int) string {
	s := ""
	for range r.Intn(n + 1) {
		s += pieces[r.Intn(len(pieces))]
	}
	return s
}

// P6.1, P6.4: random expressions and strings.
func TestRandom(t *testing.T) {
	r := rand.New(rand.NewSource(6))
	pieces := []string{"a", "b", "ab", "a*", "b+", "c?", "(", "(", ")", ")", ")*", ")+", ")?", "|", ".", "[ab]", "[^a]", "[b-c]*", "\\d", "\\w", "\\.", "\xff", "\n", "[\\n-c]", none, "(a|b)*", "(a|ab)"}
	letters := []string{"a", "b", "c", "ab", "ba", "\n", "\xff", ".", "0", "aaa"}
	valid := 0
	for range 20000 {
		p := random(r, pieces, 12)
		if checkAll(t, p, []string{random(r, letters, 4), random(r, letters, 8), random(r, letters, 20)}) {
			valid++
		}
	}
	if valid < 3000 {
		t.Errorf("%d expressions", valid)
	}
}

// P6.1: all functions return zero values for what is no expression, and change nothing.
func TestInvalid(t *testing.T) {
	for _, p := range []string{"*", "a**", "(", ")", "[", "[]", "[b-a]", "[\\d]", "\\", "\\a", "a)|b", "b|(a", strings.Repeat("a", 201), strings.Repeat("*", 201), strings.Repeat("a", 100000), strings.Repeat("(", 100000), "a" + strings.Repeat("|", 200)} {
		for _, s := range []string{"", "a", "b", p, "a**", strings.Repeat("a", 200)} {
			if Match(p, s) {
				t.Errorf("%.20q matches %q", p, s)
			}
			if f, is := Find(p, s); is || f != (api.Found{}) {
				t.Errorf("%.20q in %q: %v, %v", p, s, f, is)
			}
		}
		prefix, only := Prefix(p)
		if prefix != "" || only || Empty(p) || Check(p) == api.OK {
			t.Errorf("%.20q: %q, %v, empty %v, error %d", p, prefix, only, Empty(p), Check(p))
		}
	}
	p, s := "a.*[b-d]", "xabcde"
	oldP, oldS := strings.Clone(p), strings.Clone(s)
	Check(p)
	Match(p, s)
	Find(p, s)
	Prefix(p)
	Quote(p)
	Empty(p)
	if p != oldP || s != oldS {
		t.Errorf("changed: %q, %q", p, s)
	}
}

// FuzzExpressions compares all functions with the standard library.
func FuzzExpressions(f *testing.F) {
	for _, p := range []string{"a(b|c)*d", "[^a-c\\]-]+", "\\d\\w\\n|.", none, "((a*)*)+?", "(a|ab)(c|bcd)"} {
		f.Add(p, "abcd")
	}
	f.Fuzz(func(t *testing.T, p, s string) {
		cut := s[:min(len(s), 300)]
		checkAll(t, p, slices.Compact([]string{cut, cut[:len(cut)/2]}))
		checkQuoted(t, cut)
	})
}

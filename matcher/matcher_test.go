package matcher

import (
	"math"
	"math/rand"
	"slices"
	"strings"
	"testing"

	"lookout/api"
	"lookout/regex"
)

const (
	// none is a regular expression that matches no string.
	none = "[^\x00-\xff]"
	// notText has bytes that are no text, beside some that are.
	notText = "\x00\x7f\x80é\xe9\xff\xfe\xf0\x9f日\u2028\t\r "
)

func eq(name, value string) api.Matcher {
	return api.Matcher{Kind: 1, Name: name, Value: value}
}

func ne(name, value string) api.Matcher {
	return api.Matcher{Kind: 2, Name: name, Value: value}
}

func re(name, value string) api.Matcher {
	return api.Matcher{Kind: 3, Name: name, Value: value}
}

func nr(name, value string) api.Matcher {
	return api.Matcher{Kind: 4, Name: name, Value: value}
}

func list(l ...api.Matcher) []api.Matcher {
	return l
}

// all returns a matcher of each of some kinds for each of some values.
func all(kinds []int, name string, values ...string) []api.Matcher {
	var l []api.Matcher
	for _, kind := range kinds {
		for _, value := range values {
			l = append(l, api.Matcher{Kind: kind, Name: name, Value: value})
		}
	}
	return l
}

// labelsOf returns labels of names and values, which alternate.
func labelsOf(texts ...string) []api.Label {
	var l []api.Label
	for pair := range slices.Chunk(texts, 2) {
		l = append(l, api.Label{Name: pair[0], Value: pair[1]})
	}
	return l
}

// tuples returns all lists of at most n elements of a list, the shorter ones first.
func tuples[E any](elements []E, n int) [][]E {
	all := [][]E{nil}
	last := all
	for range n {
		var next [][]E
		for _, l := range last {
			for _, x := range elements {
				next = append(next, append(slices.Clip(l), x))
			}
		}
		all = append(all, next...)
		last = next
	}
	return all
}

// bad returns matchers that are not valid, one for each reason and kind.
func bad() []api.Matcher {
	long := strings.Repeat("v", 201)
	return list(api.Matcher{}, api.Matcher{Kind: 5, Name: "a", Value: "x"}, api.Matcher{Kind: -1, Name: "a", Value: "x"}, eq("", "x"), ne("1", "x"), re("a-b", "x"), nr(strings.Repeat("n", 61), "x"), eq("a", long), ne("a", long), re("a", long), nr("a", long), re("a", "("), nr("a", "x**"))
}

func checkList(t *testing.T, got, want []api.Matcher, what ...any) {
	t.Helper()
	if !slices.Equal(got, want) {
		t.Errorf("%v: %v instead of %v", what, got, want)
	}
}

func checkParse(t *testing.T, s string) api.Errno {
	t.Helper()
	l, e := Parse(s)
	want, wantError := wantParse(s)
	if e != wantError || !slices.Equal(l, want) {
		t.Errorf("%q: %v, error %d instead of %v, error %d", s, l, e, want, wantError)
	}
	return e
}

// checkAlone tests the functions of one list, and returns its error.
func checkAlone(t *testing.T, l []api.Matcher) api.Errno {
	t.Helper()
	e, want := Check(l), wantCheck(l)
	if e != want {
		t.Errorf("%v: error %d instead of %d", l, e, want)
	}
	if s, want := Format(l), wantFormat(l); s != want {
		t.Errorf("%v: text %q instead of %q", l, s, want)
	}
	simple, isPossible := Simplify(l)
	wantSimple, wantPossible := wantSimplify(l)
	if isPossible != wantPossible || !slices.Equal(simple, wantSimple) {
		t.Errorf("%v: simplified %v, %v instead of %v, %v", l, simple, isPossible, wantSimple, wantPossible)
	}
	return e
}

func checkMatches(t *testing.T, l []api.Matcher, labels []api.Label) bool {
	t.Helper()
	is, want := Matches(l, labels), wantMatches(l, labels)
	if is != want {
		t.Errorf("%v, %v: %v", l, labels, is)
	}
	return is
}

func checkImplies(t *testing.T, a, b []api.Matcher) bool {
	t.Helper()
	is, want := Implies(a, b), wantImplies(a, b)
	if is != want {
		t.Errorf("%v, %v: %v", a, b, is)
	}
	return is
}

// P7.1: valid lists, and for others the first error.
func TestCheck(t *testing.T) {
	name, value := strings.Repeat("n", 60), strings.Repeat("v", 200)
	for _, c := range []struct {
		l []api.Matcher
		e api.Errno
	}{
		{nil, api.OK}, {[]api.Matcher{}, api.OK}, {list(eq("a", "x"), re("b", "y.*")), api.OK}, {list(nr("b", ""), eq("a", ""), nr("b", ""), eq("a", "y")), api.OK},
		{slices.Repeat(list(eq("a", "x")), 16), api.OK}, {slices.Repeat(list(eq("a", "x")), 17), api.ErrLimit}, {slices.Repeat(list(re("a", "(")), 17), api.ErrLimit}, {make([]api.Matcher, 17), api.ErrLimit}, {make([]api.Matcher, 16), api.ErrKind},
		{all([]int{0, 1}, "a", "x"), api.ErrKind}, {all([]int{-1}, "a", "x"), api.ErrKind}, {all([]int{5}, "a", "x"), api.ErrKind}, {all([]int{6, 7}, "a", "x"), api.ErrKind}, {all([]int{math.MinInt}, "a", "x"), api.ErrKind}, {all([]int{math.MaxInt}, "a", "x"), api.ErrKind}, {all([]int{1, 2, 3, 4}, "a", "x"), api.OK},
		{list(eq("", "x")), api.ErrName}, {list(ne("9a", "x")), api.ErrName}, {list(re("a b", "x")), api.ErrName}, {list(nr("é", "x")), api.ErrName}, {list(eq("a\n", "x")), api.ErrName}, {list(eq("a9_Z", "x"), eq("_", "x"), eq("Z", "x")), api.OK},
		{all([]int{1, 2, 3, 4}, name, "x"), api.OK}, {list(eq(name+"n", "x")), api.ErrName}, {list(nr(name+"n", "x")), api.ErrName},
		{all([]int{1, 2, 3, 4}, "a", value), api.OK}, {list(eq("a", value+"v")), api.ErrLimit}, {list(ne("a", value+"v")), api.ErrLimit}, {list(re("a", value+"v")), api.ErrLimit}, {list(nr("a", value+"v")), api.ErrLimit},
		{all([]int{1, 2}, "a", "(", "x**", "[", `\`, `\q`, notText), api.OK}, {list(re("a", "(")), api.ErrSyntax}, {list(nr("a", "x**")), api.ErrSyntax}, {list(re("a", `\q`)), api.ErrSyntax}, {list(re("a", "("+value)), api.ErrLimit}, {all([]int{3, 4}, "a", none, notText, ""), api.OK},
	} {
		if e := Check(c.l); e != c.e {
			t.Errorf("%v: error %d instead of %d", c.l, e, c.e)
		}
		checkAlone(t, c.l)
	}
}

// P7.1: which error is the first one, of a matcher that has several and of several matchers.
func TestOrderOfErrors(t *testing.T) {
	long := strings.Repeat("v", 201)
	for _, c := range []struct {
		l []api.Matcher
		e api.Errno
	}{
		{list(api.Matcher{Kind: 0, Name: "", Value: long}), api.ErrKind}, {list(api.Matcher{Kind: 5, Name: "1", Value: "("}), api.ErrKind}, {list(api.Matcher{Kind: 5, Name: "a", Value: long}), api.ErrKind},
		{list(eq("", long)), api.ErrName}, {list(ne("1", long)), api.ErrName}, {list(re("a b", "(")), api.ErrName}, {list(nr("é", long)), api.ErrName}, {list(re("a", "("+long)), api.ErrLimit},
		{list(eq("a", "x"), re("a", "("), eq("", "x")), api.ErrSyntax}, {list(eq("", "x"), api.Matcher{}), api.ErrName}, {list(api.Matcher{}, eq("", "x")), api.ErrKind}, {list(eq("a", long), api.Matcher{}), api.ErrLimit}, {list(re("a", "("), ne("a", long)), api.ErrSyntax}, {list(ne("a", long), nr("a", "(")), api.ErrLimit},
		{append(slices.Repeat(list(eq("a", "x")), 15), nr("b", "(")), api.ErrSyntax}, {append(slices.Repeat(list(eq("a", "x")), 15), api.Matcher{Kind: 5, Name: "a"}), api.ErrKind}, {append(slices.Repeat(list(eq("a", "x")), 16), api.Matcher{}), api.ErrLimit}, {slices.Repeat(bad(), 2)[:17], api.ErrLimit},
	} {
		if e := Check(c.l); e != c.e {
			t.Errorf("%v: error %d instead of %d", c.l, e, c.e)
		}
		checkAlone(t, c.l)
		if e := checkParse(t, wantText(c.l)); e == api.OK {
			t.Errorf("%v: parsed", c.l)
		}
	}
	for _, x := range bad() {
		for _, y := range bad() {
			for _, l := range [][]api.Matcher{list(x, y), list(eq("a", "x"), x, y), list(x, nr("b", ".*"), y), slices.Concat(slices.Repeat(list(eq("a", "x")), 14), list(x, y)), slices.Concat(slices.Repeat(list(eq("a", "x")), 15), list(x, y))} {
				checkAlone(t, l)
			}
		}
	}
}

// P7.1: each byte at the beginning of a name, within it, and at its end; lengths of names and values around their limits.
func TestNamesAndLengths(t *testing.T) {
	for b := range 256 {
		c := string([]byte{byte(b)})
		for _, name := range []string{c, c + "a", "a" + c, "a" + c + "a"} {
			for _, m := range all([]int{1, 2, 3, 4}, name, "x") {
				checkAlone(t, list(m))
				checkParse(t, wantText(list(m)))
			}
		}
	}
	for n := range 65 {
		checkAlone(t, all([]int{4, 1, 2, 3}, strings.Repeat("Z", n), "x"))
		checkAlone(t, list(eq("a", "x"), nr("_"+strings.Repeat("9", n), "x")))
	}
	for _, n := range []int{0, 1, 100, 198, 199, 200, 201, 202, 300, 2000} {
		for _, m := range all([]int{1, 2, 3, 4}, "a", strings.Repeat("x", n), strings.Repeat("\n", n), strings.Repeat("(", n), strings.Repeat("é", n)) {
			checkAlone(t, list(m))
			checkAlone(t, list(eq("b", "y"), m))
			checkParse(t, wantText(list(m)))
		}
	}
	for n := range 20 {
		checkAlone(t, slices.Repeat(list(ne("a", "x")), n))
		checkAlone(t, slices.Repeat(list(re("a", "x.*")), n))
	}
}

// P7.1: the values of names in labels, sets or not, and each kind.
func TestMatches(t *testing.T) {
	for _, c := range []struct {
		l      []api.Matcher
		labels []api.Label
		want   bool
	}{
		{nil, nil, true}, {nil, labelsOf("a", "x"), true}, {list(eq("a", "x"), re("b", "y.*")), labelsOf("a", "x", "b", "yz"), true}, {list(eq("a", "x"), re("b", "y.*")), labelsOf("a", "x", "b", "z"), false}, {list(eq("a", "x"), re("b", "y.*")), labelsOf("a", "z", "b", "yz"), false},
		{list(eq("a", "x")), labelsOf("a", "x"), true}, {list(eq("a", "x")), labelsOf("a", "xx"), false}, {list(eq("a", "x")), labelsOf("a", "X"), false}, {list(eq("a", "x")), labelsOf("b", "x"), false}, {list(eq("a", "x")), labelsOf("A", "x"), false},
		{list(ne("a", "x")), labelsOf("a", "x"), false}, {list(ne("a", "x")), labelsOf("a", "y"), true}, {list(ne("a", "x")), labelsOf("b", "x"), true},
		{list(re("a", "x+")), labelsOf("a", "xx"), true}, {list(re("a", "x+")), labelsOf("a", "xy"), false}, {list(re("a", "x+")), labelsOf("a", "yx"), false}, {list(re("a", "x+")), nil, false}, {list(re("a", "x*")), nil, true}, {list(re("a", "")), nil, true}, {list(re("a", none)), nil, false}, {list(re("a", ".")), labelsOf("a", "\n"), true}, {list(re("a", "..")), labelsOf("a", "é"), true}, {list(re("a", "[^x]")), labelsOf("a", "\xff"), true},
		{list(nr("a", "x+")), labelsOf("a", "xx"), false}, {list(nr("a", "x+")), labelsOf("a", "xy"), true}, {list(nr("a", "x+")), nil, true}, {list(nr("a", "x*")), nil, false}, {list(nr("a", none)), labelsOf("a", "x"), true}, {list(nr("a", ".*")), labelsOf("a", "\n\x00"), false},
		{list(eq("a", "")), nil, true}, {list(eq("a", "")), labelsOf("a", ""), true}, {list(eq("a", "")), labelsOf("a", "x"), false}, {list(ne("a", "")), nil, false}, {list(ne("a", "")), labelsOf("a", ""), false}, {list(ne("a", "")), labelsOf("a", "x"), true},
		{list(eq("a", "x"), ne("b", "y")), labelsOf("c", "z", "b", "x", "a", "x"), true}, {list(eq("a", "1")), labelsOf("a", "1", "a", "2"), true}, {list(eq("a", "2")), labelsOf("a", "1", "a", "2"), false}, {list(eq("a", "")), labelsOf("a", "", "a", "2"), true}, {list(ne("a", "2"), re("a", "[13]")), labelsOf("b", "2", "a", "3", "a", "2"), true},
		{list(eq("a", "x")), labelsOf("", "y", "1", "z", "a", "x", "a", strings.Repeat("v", 300)), true}, {list(re("a", "v*")), labelsOf("a", strings.Repeat("v", 300)), true},
		{slices.Repeat(list(eq("a", "x")), 16), labelsOf("a", "x"), true}, {append(slices.Repeat(list(eq("a", "x")), 15), eq("b", "x")), labelsOf("a", "x"), false}, {list(eq("b", "x"), eq("a", "x")), labelsOf("a", "x"), false}, {list(eq("a", "x"), eq("a", "y")), labelsOf("a", "x", "a", "y"), false},
		{slices.Repeat(list(eq("a", "x")), 17), labelsOf("a", "x"), false}, {list(ne("a", strings.Repeat("v", 201))), nil, false}, {list(nr("a", "(")), nil, false}, {list(api.Matcher{Kind: 2, Name: "", Value: "x"}), nil, false}, {list(eq("a", "x"), api.Matcher{Name: "a", Value: "x"}), labelsOf("a", "x"), false}, {list(eq("", "x")), labelsOf("", "x"), false},
	} {
		if is := Matches(c.l, c.labels); is != c.want {
			t.Errorf("%v, %v: %v", c.l, c.labels, is)
		}
		checkMatches(t, c.l, c.labels)
	}
}

// P7.1: all short lists and labels.
func TestManyMatches(t *testing.T) {
	matched := 0
	kinds := []int{1, 2, 3, 4}
	matchers := slices.Concat(all(kinds, "a", "", "x", "x.*", none), all(kinds, "b", "x"), list(re("a", "("), eq("1", "x")))
	for _, labels := range tuples(labelsOf("a", "x", "a", "xy", "a", "", "b", "x", "b", "x.*", "", "x", "1", "x"), 2) {
		for _, l := range tuples(matchers, 2) {
			if checkMatches(t, l, labels) {
				matched++
			}
		}
	}
	if matched < 1000 {
		t.Errorf("only %d matches", matched)
	}
}

// P7.1: the opposite kinds; other parts stay, valid or not.
func TestNegate(t *testing.T) {
	for _, kind := range []int{math.MinInt, -4, -3, -2, -1, 0, 1, 2, 3, 4, 5, 6, 7, 8, 1 << 32, 1<<32 + 1, math.MaxInt} {
		for _, name := range []string{"a", "", "1", notText} {
			for _, value := range []string{"", "x", "(", strings.Repeat("v", 300)} {
				m := api.Matcher{Kind: kind, Name: name, Value: value}
				if got, want := Negate(m), wantNegate(m); got != want {
					t.Errorf("%v: %v instead of %v", m, got, want)
				}
			}
		}
	}
}

// P7.1: for lists that are not valid, there are no results, whatever else they have.
func TestNotValid(t *testing.T) {
	contradiction := list(eq("a", "x"), eq("a", "y"))
	lists := [][]api.Matcher{slices.Repeat(list(eq("a", "x")), 17), append(slices.Repeat(contradiction, 8), re("a", none))}
	for _, m := range bad() {
		lists = append(lists, list(m), append(contradiction, m), list(m, re("a", none)), list(m, m))
	}
	for _, l := range lists {
		if Check(l) == api.OK {
			t.Fatalf("%v is valid", l)
		}
		if simple, isPossible := Simplify(l); len(simple) != 0 || isPossible {
			t.Errorf("%v: simplified %v, %v", l, simple, isPossible)
		}
		if s := Format(l); s != "" {
			t.Errorf("%v: text %q", l, s)
		}
		if Matches(l, nil) || Matches(l, labelsOf("a", "x")) {
			t.Errorf("%v matches", l)
		}
		for _, other := range append(lists, nil, contradiction, list(eq("a", "x"))) {
			if Implies(l, other) || Implies(other, l) {
				t.Errorf("%v and %v: implied", l, other)
			}
		}
	}
}

// P7.1: some texts, written out, and each byte in a value.
func TestFormat(t *testing.T) {
	for _, c := range []struct {
		l []api.Matcher
		s string
	}{
		{nil, "{}"}, {[]api.Matcher{}, "{}"}, {list(eq("a", "x"), re("b", "y.*")), "{a=\"x\",b=~\"y.*\"}"}, {list(nr("b", ""), ne("a", ""), nr("b", "")), "{b!~\"\",a!=\"\",b!~\"\"}"}, {list(ne("a", "="), re("_", "~\\."), nr("Z9", "!"), eq("a", ",a=")), "{a!=\"=\",_=~\"~\\\\.\",Z9!~\"!\",a=\",a=\"}"},
		{list(eq("a", "\\")), "{a=\"\\\\\"}"}, {list(ne("a", "\n")), "{a!=\"\\n\"}"}, {list(re("a", "\\n")), "{a=~\"\\\\n\"}"}, {list(nr("a", "\n\"n")), "{a!~\"\\n\\\"n\"}"}, {list(eq("a", "\\\n\"n")), "{a=\"\\\\\\n\\\"n\"}"}, {list(eq("a", notText)), "{a=\"" + notText + "\"}"}, {list(eq("a", "}"), eq("a", "{")), "{a=\"}\",a=\"{\"}"},
	} {
		if s := Format(c.l); s != c.s {
			t.Errorf("%v: %q instead of %q", c.l, s, c.s)
		}
		checkParse(t, c.s)
	}
	for b := range 256 {
		c := string([]byte{byte(b)})
		for _, value := range []string{c, c + "x", "x" + c, c + c} {
			for _, m := range all([]int{1, 2, 3, 4}, "a", value) {
				checkAlone(t, list(m))
			}
			for _, beginning := range []string{"{a=\"", "{a=~\"\\", "{a!=\"\\\\"} {
				checkParse(t, beginning+value+"\"}")
			}
		}
	}
}

// P7.1: texts, and what is none.
func TestParse(t *testing.T) {
	value := strings.Repeat("v", 200)
	for _, c := range []struct {
		s    string
		want []api.Matcher
		e    api.Errno
	}{
		{"{}", nil, api.OK}, {"{a=\"x\",b=~\"y.*\"}", list(eq("a", "x"), re("b", "y.*")), api.OK}, {"{a!=\"\",a!~\"\",a=~\"\",a=\"\"}", list(ne("a", ""), nr("a", ""), re("a", ""), eq("a", "")), api.OK}, {"{a=\"\\\\\\\"\\n\\\\n\"}", list(eq("a", "\\\"\n\\n")), api.OK}, {"{a=\"}\",b=\"{\",c=\",d=\"}", list(eq("a", "}"), eq("b", "{"), eq("c", ",d=")), api.OK}, {"{a=~\"\\\\.\\n\"}", list(re("a", "\\.\n")), api.OK},
		{"{a=\"" + notText + "\"}", list(eq("a", notText)), api.OK}, {"{a=\"" + value + "\"}", list(eq("a", value)), api.OK}, {"{a!=\"" + strings.Repeat("\\n", 200) + "\"}", list(ne("a", strings.Repeat("\n", 200))), api.OK}, {"{" + strings.Repeat("Z", 60) + "=\"x\"}", list(eq(strings.Repeat("Z", 60), "x")), api.OK}, {"{a=\"~x\",b=\"=x\"}", list(eq("a", "~x"), eq("b", "=x")), api.OK},
		{"", nil, api.ErrSyntax}, {"{", nil, api.ErrSyntax}, {"}", nil, api.ErrSyntax}, {"}{", nil, api.ErrSyntax}, {"{{}}", nil, api.ErrSyntax}, {"{}{}", nil, api.ErrSyntax}, {"{}}", nil, api.ErrSyntax}, {"{},", nil, api.ErrSyntax}, {"{,}", nil, api.ErrSyntax}, {"{ }", nil, api.ErrSyntax}, {" {}", nil, api.ErrSyntax}, {"{} ", nil, api.ErrSyntax}, {"{}\n", nil, api.ErrSyntax}, {"{}\x00", nil, api.ErrSyntax}, {"a=\"x\"", nil, api.ErrSyntax}, {"[a=\"x\"]", nil, api.ErrSyntax}, {",a=\"x\"}", nil, api.ErrSyntax},
		{"{a}", nil, api.ErrSyntax}, {"{a=}", nil, api.ErrSyntax}, {"{a=x}", nil, api.ErrSyntax}, {"{a='x'}", nil, api.ErrSyntax}, {"{a=\"}", nil, api.ErrSyntax}, {"{a=\"x}", nil, api.ErrSyntax}, {"{a=x\"}", nil, api.ErrSyntax}, {"{a\"x\"}", nil, api.ErrSyntax}, {"{=\"x\"}", nil, api.ErrSyntax}, {"{!=\"x\"}", nil, api.ErrSyntax}, {"{\"x\"}", nil, api.ErrSyntax}, {"{a=\"x\"", nil, api.ErrSyntax}, {"{a=\"x\",", nil, api.ErrSyntax}, {"{a=\"x\",b", nil, api.ErrSyntax}, {"a=\"x\"}", nil, api.ErrSyntax},
		{"{a==\"x\"}", nil, api.ErrSyntax}, {"{a!\"x\"}", nil, api.ErrSyntax}, {"{a~\"x\"}", nil, api.ErrSyntax}, {"{a~=\"x\"}", nil, api.ErrSyntax}, {"{a=!\"x\"}", nil, api.ErrSyntax}, {"{a~!\"x\"}", nil, api.ErrSyntax}, {"{a!!=\"x\"}", nil, api.ErrSyntax}, {"{a=~~\"x\"}", nil, api.ErrSyntax}, {"{a<\"x\"}", nil, api.ErrSyntax}, {"{a=~x}", nil, api.ErrSyntax}, {"{a! =\"x\"}", nil, api.ErrSyntax}, {"{a=~ \"x\"}", nil, api.ErrSyntax},
		{"{a=\"x\",}", nil, api.ErrSyntax}, {"{,a=\"x\"}", nil, api.ErrSyntax}, {"{a=\"x\",,b=\"y\"}", nil, api.ErrSyntax}, {"{a=\"x\"b=\"y\"}", nil, api.ErrSyntax}, {"{a=\"x\";b=\"y\"}", nil, api.ErrSyntax}, {"{a=\"x\"}{b=\"y\"}", nil, api.ErrSyntax}, {"{a=\"x\"},{b=\"y\"}", nil, api.ErrSyntax}, {"{a=\"x\"}b=\"y\"}", nil, api.ErrSyntax},
		{"{ a=\"x\"}", nil, api.ErrSyntax}, {"{a =\"x\"}", nil, api.ErrSyntax}, {"{a= \"x\"}", nil, api.ErrSyntax}, {"{a=\"x\" }", nil, api.ErrSyntax}, {"{a=\"x\", b=\"y\"}", nil, api.ErrSyntax}, {"{a=\"x\" ,b=\"y\"}", nil, api.ErrSyntax},
		{"{a=\"\\\"}", nil, api.ErrSyntax}, {"{a=\"\\", nil, api.ErrSyntax}, {"{a=\"x\\\"}", nil, api.ErrSyntax}, {"{a=\"\\t\"}", nil, api.ErrSyntax}, {"{a=~\"\\.\"}", nil, api.ErrSyntax}, {"{a=\"\\N\"}", nil, api.ErrSyntax}, {"{a=\"\\'\"}", nil, api.ErrSyntax}, {"{a=\"\\}\"}", nil, api.ErrSyntax}, {"{a=\"\\\n\"}", nil, api.ErrSyntax}, {"{a=\"\n\"}", nil, api.ErrSyntax}, {"{a=\"x\ny\"}", nil, api.ErrSyntax}, {"{a=\"\"x\"}", nil, api.ErrSyntax}, {"{a=\"x\"\"y\"}", nil, api.ErrSyntax},
		{"{a-b=\"x\"}", nil, api.ErrSyntax}, {"{é=\"x\"}", nil, api.ErrSyntax}, {"{a\\n=\"x\"}", nil, api.ErrSyntax}, {"{a\n=\"x\"}", nil, api.ErrSyntax}, {"{1=\"x\",=\"y\"}", nil, api.ErrSyntax}, {"{a=~\"(\",b}", nil, api.ErrSyntax},
		{"{1=\"x\"}", nil, api.ErrName}, {"{1a=~\"(\"}", nil, api.ErrName}, {"{" + strings.Repeat("Z", 61) + "=\"x\"}", nil, api.ErrName}, {"{a=~\"(\"}", nil, api.ErrSyntax}, {"{a!~\"[b-a]\"}", nil, api.ErrSyntax}, {"{a=\"(\"}", list(eq("a", "(")), api.OK}, {"{a=\"" + value + "v\"}", nil, api.ErrLimit}, {"{a!~\"" + value + "v\"}", nil, api.ErrLimit}, {"{a!=\"" + strings.Repeat("\\n", 201) + "\"}", nil, api.ErrLimit}, {"{1=\"x\",a=~\"(\"}", nil, api.ErrName}, {"{a=~\"(\",1=\"x\"}", nil, api.ErrSyntax},
		{wantText(slices.Repeat(list(eq("a", "x")), 16)), slices.Repeat(list(eq("a", "x")), 16), api.OK}, {wantText(slices.Repeat(list(eq("a", "x")), 17)), nil, api.ErrLimit}, {wantText(slices.Repeat(list(eq("1", "x")), 17)), nil, api.ErrLimit}, {wantText(slices.Repeat(list(eq("a", "x")), 17)) + "}", nil, api.ErrSyntax}, {wantText(slices.Repeat(list(re("a", "(")), 5000)), nil, api.ErrLimit},
	} {
		if l, e := Parse(c.s); e != c.e || !slices.Equal(l, c.want) {
			t.Errorf("%q: %v, error %d instead of %v, error %d", c.s, l, e, c.want, c.e)
		}
		checkParse(t, c.s)
	}
}

// P7.1: texts with each byte left out, doubled and changed to each other one, with each byte in each place, and cut.
func TestChangedTexts(t *testing.T) {
	parsed := 0
	try := func(parts ...string) {
		if checkParse(t, strings.Join(parts, "")) == api.OK {
			parsed++
		}
	}
	for _, l := range [][]api.Matcher{nil, list(eq("a", "x")), list(ne("B_9", "\\"), re("a", "\"\n"), nr("c", "n")), list(nr("_", "a.b\\."), eq("job", notText))} {
		s := wantText(l)
		for i := range len(s) {
			before, here, behind := s[:i], s[i:i+1], s[i+1:]
			try(before)
			try(here, behind)
			try(before, behind)
			try(before, here, here, behind)
			for b := range 256 {
				try(before, string([]byte{byte(b)}), behind)
				try(before, string([]byte{byte(b)}), here, behind)
			}
		}
		for b := range 256 {
			try(s, string([]byte{byte(b)}))
		}
	}
	if parsed < 1000 {
		t.Errorf("only %d texts could be parsed", parsed)
	}
}

// P7.1: all short continuations of some beginnings.
func TestShortTexts(t *testing.T) {
	parsed := 0
	signs := []string{"{", "}", "a", "=", "!", "~", "\"", ",", "\\", "n"}
	for _, end := range tuples(signs, 4) {
		for _, beginning := range []string{"", "{", "{a", "{a!", "{a=~\"x", "{a=\"\\", "{a=\"x\"", "{a=\"x\",", "{a=\"x\",n!~\"", "{a=\"x\"}"} {
			for _, last := range []string{"", "}", "\"}"} {
				if checkParse(t, beginning+strings.Join(end, "")+last) == api.OK {
					parsed++
				}
			}
		}
	}
	if parsed < 1000 {
		t.Errorf("only %d texts could be parsed", parsed)
	}
}

// P7.1: arguments are not changed, also where there is room behind them, and results are new memory.
func TestMemory(t *testing.T) {
	lists := tuples(slices.Concat(all([]int{4, 3, 2, 1}, "b", "x", "x.*", "y.*"), list(eq("a", "x"), nr("a", none), re("a", "("))), 3)
	random := rand.New(rand.NewSource(7))
	for range 3000 {
		checkMemory(t, lists[random.Intn(len(lists))], lists[random.Intn(len(lists))])
	}
	for _, l := range tuples(all([]int{1, 2}, "b", "x", "y"), 4) {
		checkMemory(t, l, l)
	}
}

func checkMemory(t *testing.T, l, other []api.Matcher) {
	t.Helper()
	mark := api.Matcher{Kind: 9, Name: "mark", Value: "mark"}
	around, otherAround := slices.Concat(l, list(mark, mark)), slices.Concat(other, list(mark, mark))
	arg, otherArg := around[:len(l)], otherAround[:len(other)]
	labels := labelsOf("b", "x", "a", "y", "a", "", "mark", "mark")
	Check(arg)
	Matches(arg, labels[:3])
	Implies(arg, otherArg)
	s := Format(arg)
	parsed, _ := Parse(s)
	again, _ := Parse(s)
	simple, _ := Simplify(arg)
	twice, _ := Simplify(simple)
	results := [][]api.Matcher{simple, twice, parsed, again}
	var copies [][]api.Matcher
	for _, r := range results {
		copies = append(copies, slices.Clone(r))
	}
	for i, r := range results {
		r = r[:cap(r)]
		for k := range r {
			r[k] = api.Matcher{Kind: 8, Name: "overwritten", Value: "overwritten"}
		}
		for k := i + 1; k < len(results); k++ {
			checkList(t, results[k], copies[k], "result", k, "after", i)
		}
	}
	checkList(t, around, slices.Concat(l, list(mark, mark)), "argument")
	checkList(t, otherAround, slices.Concat(other, list(mark, mark)), "other argument")
	if !slices.Equal(labels, labelsOf("b", "x", "a", "y", "a", "", "mark", "mark")) {
		t.Errorf("labels: %q", labels)
	}
}

// P7.1: for arbitrary texts and matchers, the results are those of the chapter's steps.
func FuzzMatchers(f *testing.F) {
	f.Add("{a=\"x\",b=~\"y.*\"}", "{b!=\"q\",b=~\"y.*\",a=~\"x\",a!=\"w\"}", 1, "a", "x")
	f.Add("{a!~\"x.*\",a=~\"xy.*|z\",a!=\"\\\"\\\\\\n\"}", "{a!=\"xy\"}", 3, "a", "y.*")
	f.Add("{a=~\"x.*\",a!~\"y.*\"}", "{a!~\"y.*\",a=~\""+none+"\"}", 4, "b", "(x|y)*")
	f.Add("{a=\"x\", b=\"\\t\",}", "{1a=\"x\"}", 5, "1", "(")
	f.Fuzz(func(t *testing.T, s, other string, kind int, name, value string) {
		checkParse(t, s)
		checkParse(t, other)
		a, _ := Parse(s)
		b, _ := Parse(other)
		m := api.Matcher{Kind: kind, Name: name, Value: value}
		if got, want := Negate(m), wantNegate(m); got != want {
			t.Errorf("%v: %v instead of %v", m, got, want)
		}
		l := []api.Matcher{m}
		checkMatches(t, l, labelsOf(name, value))
		for _, x := range [][]api.Matcher{a, b, l, slices.Concat(a, b), slices.Concat(b, l, a)} {
			checkAlone(t, x)
			checkMatches(t, x, nil)
			checkMatches(t, x, labelsOf("a", value, "b", name, "a", "x"))
			for _, y := range [][]api.Matcher{a, l, slices.Concat(l, b), slices.Concat(a, b)} {
				checkImplies(t, x, y)
				checkImplies(t, y, x)
			}
		}
		checkQuotedText(t, name, value)
	})
}

// checkQuotedText tests that matchers with any name and value have a text if they are valid, and that it is parsed.
func checkQuotedText(t *testing.T, name, value string) {
	t.Helper()
	l := list(eq(name, value), ne(name, value), re(name, regex.Quote(value)), nr(name, value))
	checkAlone(t, l)
	checkParse(t, wantText(l))
}

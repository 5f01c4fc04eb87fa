package labels

import (
	"math/rand"
	"regexp"
	"slices"
	"strconv"
	"strings"
	"testing"

	"lookout/api"
)

// notText has bytes that are no text, beside some that are.
const notText = "\x00\x7f\x80é\xe9\xff\xfe\xf0\x9f日\u2028\t\r "

const (
	labelPattern = `([A-Za-z0-9_]+)="((?:[^"\\\n]|\\["\\n])*)"`
	textPattern  = `\A\{(?:` + labelPattern + `(?:,` + labelPattern + `)*)?\}\z`
)

var (
	nameExpression  = regexp.MustCompile(`\A[A-Za-z_][A-Za-z0-9_]{0,59}\z`)
	labelExpression = regexp.MustCompile(labelPattern)
	textExpression  = regexp.MustCompile(textPattern)
)

// list returns labels of names and values, which alternate.
func list(texts ...string) []api.Label {
	var l []api.Label
	for pair := range slices.Chunk(texts, 2) {
		l = append(l, api.Label{Name: pair[0], Value: pair[1]})
	}
	return l
}

// many returns a label set of n labels, at most 52.
func many(n int) []api.Label {
	var l []api.Label
	for i := range n {
		l = append(l, api.Label{Name: "n" + string("ABCDEFGHIJKLMNOPQRSTUVWXYZabcdefghijklmnopqrstuvwxyz"[i]), Value: strconv.Itoa(i)})
	}
	return l
}

// tuples returns all lists of at most n elements of a list, the shorter ones first.
func tuples[E any](elements []E, n int) [][]E {
	all := [][]E{nil}
	last := all
	for range n {
		var next [][]E
		for _, l := range last {
			for _, x := range elements {
				next = append(next, append(slices.Clip(l), x))
			}
		}
		all = append(all, next...)
		last = next
	}
	return all
}

// kinds returns labels of all kinds: in order, with equal Names and other Values, and not valid for each of the reasons.
func kinds() []api.Label {
	return list("a", "1", "a", "2", "b", "1", "B_9", "\"\\\n", "c", notText, "", "x", "1", "x", "a", "", "é", "x", "b", strings.Repeat("v", 201))
}

// lists returns all lists of few labels of all kinds, and some longer ones.
func lists() [][]api.Label {
	long := list("d", "4", "a", "1", "c", "3", "a", "2", "", "0", "b", "", "a", "1", "e", "5", "d", "4")
	return append(tuples(kinds(), 3), many(16), many(17), many(52), slices.Concat(many(9), many(9)), long)
}

// names returns lists of names, some with repetitions, or with what is no name.
func names() [][]string {
	return append(tuples([]string{"a", "b", "c", "", "é"}, 3), []string{"a", "x", "a", "B_9", "1", "x", "B_9"}, []string{"nA", "nP", "nz"}, []string{"A", " a", "a ", "aa", "a\x00"})
}

// wantCheck is what Check must return, with the regular expressions of the standard library.
func wantCheck(l []api.Label) api.Errno {
	if len(l) > 16 {
		return api.ErrLimit
	}
	last := ""
	for _, x := range l {
		if !nameExpression.MatchString(x.Name) {
			return api.ErrName
		}
		if len(x.Value) == 0 {
			return api.ErrArgument
		}
		if len(x.Value) >= 201 {
			return api.ErrLimit
		}
		if strings.Compare(last, x.Name) >= 0 {
			return api.ErrOrder
		}
		last = x.Name
	}
	return api.OK
}

// wantText is what Format must return.
func wantText(l []api.Label) string {
	escapes := strings.NewReplacer("\\", "\\\\", "\"", "\\\"", "\n", "\\n")
	var parts []string
	for _, x := range l {
		parts = append(parts, x.Name+"=\""+escapes.Replace(x.Value)+"\"")
	}
	return "{" + strings.Join(parts, ",") + "}"
}

// wantParse is what Parse must return.
func wantParse(s string) ([]api.Label, api.Errno) {
	if !textExpression.MatchString(s) {
		return nil, api.ErrSyntax
	}
	escapes := strings.NewReplacer("\\\\", "\\", "\\\"", "\"", "\\n", "\n")
	var l []api.Label
	for _, m := range labelExpression.FindAllStringSubmatch(s, -1) {
		l = append(l, api.Label{Name: m[1], Value: escapes.Replace(m[2])})
	}
	if e := wantCheck(l); e != api.OK {
		return nil, e
	}
	return l, api.OK
}

// without returns the labels of l for which is does not hold.
func without(l []api.Label, is func(x api.Label) bool) []api.Label {
	return slices.DeleteFunc(slices.Clone(l), is)
}

// wantWith is what With must return.
func wantWith(l []api.Label, name, value string) []api.Label {
	rest := without(l, func(x api.Label) bool { return x.Name == name })
	if value == "" {
		return rest
	}
	at := 0
	for at < len(rest) && strings.Compare(rest[at].Name, name) <= 0 {
		at++
	}
	return slices.Concat(rest[:at], list(name, value), rest[at:])
}

func checkList(t *testing.T, got, want []api.Label, what ...any) {
	t.Helper()
	if !slices.Equal(got, want) {
		t.Errorf("%q: %q instead of %q", what, got, want)
	}
}

func checkParse(t *testing.T, s string) api.Errno {
	t.Helper()
	l, e := Parse(s)
	want, wantError := wantParse(s)
	if e != wantError || !slices.Equal(l, want) {
		t.Errorf("%q: %q, error %d instead of %q, error %d", s, l, e, want, wantError)
	}
	return e
}

// checkAlone tests the functions of one list.
func checkAlone(t *testing.T, l []api.Label) {
	t.Helper()
	if e, want := Check(l), wantCheck(l); e != want {
		t.Errorf("%q: error %d instead of %d", l, e, want)
	}
	s := wantText(l)
	if text := Format(l); text != s {
		t.Errorf("%q: text %q instead of %q", l, text, s)
	}
	checkParse(t, s)
	if h := Hash(l); h != wantHash(s) {
		t.Errorf("%q: hash %d instead of %d", l, h, wantHash(s))
	}
}

// checkNames tests the functions of a list and names.
func checkNames(t *testing.T, l []api.Label, names []string) {
	t.Helper()
	listed := map[string]bool{}
	for _, name := range names {
		listed[name] = true
	}
	checkList(t, Keep(l, names), without(l, func(x api.Label) bool { return !listed[x.Name] }), "Keep", l, names)
	checkList(t, Drop(l, names), without(l, func(x api.Label) bool { return listed[x.Name] }), "Drop", l, names)
}

// checkName tests the functions of a list, a name and a value.
func checkName(t *testing.T, l []api.Label, name, value string) {
	t.Helper()
	want := ""
	for _, x := range slices.Backward(l) {
		if x.Name == name {
			want = x.Value
		}
	}
	if v := Get(l, name); v != want {
		t.Errorf("%q of %q: %q instead of %q", name, l, v, want)
	}
	checkList(t, With(l, name, value), wantWith(l, name, value), "With", l, name, value)
}

// P5.1: label sets, and for other lists the first error.
func TestCheck(t *testing.T) {
	long := strings.Repeat("n", 60)
	big := strings.Repeat("v", 200)
	for _, c := range []struct {
		l []api.Label
		e api.Errno
	}{
		{nil, api.OK}, {[]api.Label{}, api.OK}, {list("a", "x"), api.OK}, {list("__name__", "up", "job", "a\"b\\c\nd"), api.OK},
		{list("A", "x", "B", "x", "_", "x", "a", "x", "aA", "x", "a_", "x", "aa", "x", "b", "x"), api.OK},
		{many(16), api.OK}, {many(17), api.ErrLimit},
		{list("", "x"), api.ErrName}, {list("9", "x"), api.ErrName}, {list("9a", "x"), api.ErrName}, {list("a9", "x"), api.OK}, {list("_9", "x"), api.OK},
		{list("a b", "x"), api.ErrName}, {list("a-b", "x"), api.ErrName}, {list("a:b", "x"), api.ErrName}, {list("a\n", "x"), api.ErrName}, {list("é", "x"), api.ErrName}, {list("a\x00", "x"), api.ErrName}, {list(" a", "x"), api.ErrName},
		{list(long, "x"), api.OK}, {list(long+"n", "x"), api.ErrName}, {list(long, big), api.OK},
		{list("a", ""), api.ErrArgument}, {list("a", big), api.OK}, {list("a", big+"v"), api.ErrLimit}, {list("a", notText), api.OK}, {list("a", strings.Repeat("é", 100)), api.OK}, {list("a", strings.Repeat("é", 100)+"v"), api.ErrLimit},
		{list("a", "x", "a", "x"), api.ErrOrder}, {list("a", "x", "a", "y"), api.ErrOrder}, {list("b", "x", "a", "y"), api.ErrOrder}, {list("a", "x", "A", "y"), api.ErrOrder}, {list("aa", "x", "a", "y"), api.ErrOrder}, {list("a", "x", "c", "y", "b", "z"), api.ErrOrder},
	} {
		if e := Check(c.l); e != c.e {
			t.Errorf("%q: error %d instead of %d", c.l, e, c.e)
		}
	}
	for _, l := range lists() {
		checkAlone(t, l)
	}
}

// P5.1: which error is the first one, of a label that has several and of several labels.
func TestOrderOfErrors(t *testing.T) {
	big := strings.Repeat("v", 201)
	for _, c := range []struct {
		l []api.Label
		e api.Errno
	}{
		{slices.Concat(list("", ""), many(16)), api.ErrLimit}, {slices.Concat(many(16), many(1)), api.ErrLimit},
		{list("b", "x", "", ""), api.ErrName}, {list("b", "x", "1", big), api.ErrName}, {list("b", "x", "", "x"), api.ErrName}, {list("b", "x", "A b", "x"), api.ErrName},
		{list("b", "x", "a", ""), api.ErrArgument}, {list("b", "x", "b", ""), api.ErrArgument}, {list("b", "x", "a", big), api.ErrLimit},
		{list("a", "", "", "x"), api.ErrArgument}, {list("a", big, "", "x"), api.ErrLimit}, {list("b", "x", "a", "x", "", ""), api.ErrOrder}, {list("b", "x", "a", "x", "c", ""), api.ErrOrder}, {list("", "x", "a", ""), api.ErrName},
		{slices.Concat(many(15), list("z", "")), api.ErrArgument}, {slices.Concat(many(15), list("z", big)), api.ErrLimit}, {slices.Concat(many(15), list("n", "x")), api.ErrOrder},
	} {
		if e := Check(c.l); e != c.e {
			t.Errorf("%q: error %d instead of %d", c.l, e, c.e)
		}
	}
}

// P5.1: each byte at the beginning of a name, within it, and at its end.
func TestBytesOfNames(t *testing.T) {
	for b := range 256 {
		c := string([]byte{byte(b)})
		for _, name := range []string{c, c + "a", "a" + c, "a" + c + "a"} {
			checkAlone(t, list(name, "x"))
			checkParse(t, "{"+name+"=\"x\"}")
		}
	}
}

// P5.1: lengths of names and values around their limits, and numbers of labels.
func TestLimits(t *testing.T) {
	for n := range 70 {
		checkAlone(t, list(strings.Repeat("Z", n), "x"))
		checkAlone(t, list("a", "x", strings.Repeat("_", n)+"b", "x"))
	}
	for n := range 210 {
		checkAlone(t, list("a", strings.Repeat("x", n)))
		checkAlone(t, list("a", strings.Repeat("\n", n)))
	}
	for n := range 52 {
		checkAlone(t, many(n))
	}
}

// P5.1: the first of several labels with a Name; absent ones.
func TestGet(t *testing.T) {
	l := list("b", "1", "a", "2", "b", "3", "", "4", "c", "", "c", "5", "é", "6")
	for name, want := range map[string]string{"a": "2", "b": "1", "": "4", "c": "", "é": "6", "x": "", "A": "", "b ": "", "\xe9": "", "bb": ""} {
		if v := Get(l, name); v != want {
			t.Errorf("%q: %q instead of %q", name, v, want)
		}
	}
	if Get(nil, "") != "" || Get([]api.Label{}, "a") != "" || Get(many(52), "nz") != "51" {
		t.Error("values")
	}
}

// P5.1: some projections, written out.
func TestProjections(t *testing.T) {
	l := list("c", "1", "a", "2", "c", "3", "", "4", "b", "5")
	for _, c := range []struct {
		names      []string
		keep, drop []api.Label
	}{
		{nil, nil, l}, {[]string{}, nil, l}, {[]string{"x", "A"}, nil, l},
		{[]string{"a"}, list("a", "2"), list("c", "1", "c", "3", "", "4", "b", "5")},
		{[]string{"b", "c"}, list("c", "1", "c", "3", "b", "5"), list("a", "2", "", "4")},
		{[]string{"c", "b", "c", "c"}, list("c", "1", "c", "3", "b", "5"), list("a", "2", "", "4")},
		{[]string{""}, list("", "4"), list("c", "1", "a", "2", "c", "3", "b", "5")},
		{[]string{"", "a", "b", "c"}, l, nil},
	} {
		checkList(t, Keep(l, c.names), c.keep, "Keep", c.names)
		checkList(t, Drop(l, c.names), c.drop, "Drop", c.names)
		checkList(t, Keep(nil, c.names), nil, "Keep", c.names)
		checkList(t, Drop(nil, c.names), nil, "Drop", c.names)
	}
	for _, l := range lists() {
		for _, names := range names() {
			checkNames(t, l, names)
		}
	}
}

// P5.1: a label before the first one, between two, in the place of one, and behind the last one; a label that is removed.
func TestWith(t *testing.T) {
	l := list("b", "1", "d", "2", "f", "3")
	equal := list("d", "1", "b", "2", "d", "3", "b", "4")
	for _, c := range []struct {
		l           []api.Label
		name, value string
		want        []api.Label
	}{
		{l, "a", "x", list("a", "x", "b", "1", "d", "2", "f", "3")}, {l, "", "x", list("", "x", "b", "1", "d", "2", "f", "3")}, {l, "B", "x", list("B", "x", "b", "1", "d", "2", "f", "3")},
		{l, "b", "x", list("b", "x", "d", "2", "f", "3")}, {l, "c", "x", list("b", "1", "c", "x", "d", "2", "f", "3")}, {l, "d", "x", list("b", "1", "d", "x", "f", "3")}, {l, "dd", "x", list("b", "1", "d", "2", "dd", "x", "f", "3")},
		{l, "f", "x", list("b", "1", "d", "2", "f", "x")}, {l, "g", "x", list("b", "1", "d", "2", "f", "3", "g", "x")}, {l, "é", "x", list("b", "1", "d", "2", "f", "3", "é", "x")},
		{l, "a", "", l}, {l, "b", "", list("d", "2", "f", "3")}, {l, "d", "", list("b", "1", "f", "3")}, {l, "f", "", list("b", "1", "d", "2")}, {l, "g", "", l},
		{equal, "a", "x", list("a", "x", "d", "1", "b", "2", "d", "3", "b", "4")}, {equal, "b", "x", list("b", "x", "d", "1", "d", "3")}, {equal, "c", "x", list("c", "x", "d", "1", "b", "2", "d", "3", "b", "4")}, {equal, "d", "x", list("b", "2", "b", "4", "d", "x")}, {equal, "d", "", list("b", "2", "b", "4")},
		{list("b", "1", "b", "2", "a", "3", "d", "4", "a", "5"), "c", "x", list("b", "1", "b", "2", "a", "3", "c", "x", "d", "4", "a", "5")},
		{nil, "a", "x", list("a", "x")}, {nil, "a", "", nil}, {nil, "", "x", list("", "x")}, {list("a", "1"), "a", "", nil}, {list("a", "1", "a", "2"), "a", "", nil}, {list("a", "1", "a", "2"), "a", "x", list("a", "x")},
		{list("a", "", "c", ""), "b", "x", list("a", "", "b", "x", "c", "")}, {many(16), "nA", strings.Repeat("v", 300), append(list("nA", strings.Repeat("v", 300)), many(16)[1:]...)}, {many(16), "nQ", "16", many(17)},
	} {
		checkList(t, With(c.l, c.name, c.value), c.want, c.l, c.name, c.value)
	}
	for _, l := range lists() {
		for _, name := range []string{"", "1", "A", "B_9", "a", "aa", "b", "c", "d", "nA", "nH", "nz", "é", "\xff"} {
			for _, value := range []string{"", "1", "\"\\\n"} {
				checkName(t, l, name, value)
			}
		}
	}
}

// P5.1: lists that are a beginning of others; Names before Values; bytes before lengths.
func TestCompare(t *testing.T) {
	ascending := [][]api.Label{
		nil, list("", ""), list("", "", "", ""), list("", "x"), list("A", "x"), list("a", ""), list("a", "", "a", "x"), list("a", "1"), list("a", "1", "A", "9"), list("a", "1", "b", ""), list("a", "1", "b", "1"), list("a", "1", "b", "1", "c", "0"), list("a", "1", "b", "10"), list("a", "1", "b", "2"), list("a", "1", "c", "0"), list("a", "10"), list("a", "10", "A", "0"), list("a", "2"), list("a", "a"), list("a", "\x80"), list("a", "é"), list("a", "\xff"), list("aa", "0"), list("b", ""), list("b", "0"), list("é", "0"), list("\xff", ""),
	}
	for i, a := range ascending {
		for k, b := range ascending {
			want := min(max(i-k, -1), 1)
			if c := Compare(slices.Clone(a), slices.Clone(b)); c != want {
				t.Errorf("%q and %q: %d instead of %d", a, b, c, want)
			}
		}
	}
	if Compare(nil, []api.Label{}) != 0 || Compare([]api.Label{}, nil) != 0 {
		t.Error("nil is not empty")
	}
	all := lists()
	for i, a := range all {
		for k := i % 3; k < len(all); k += 3 {
			// Since all labels have two texts, the order is that of the lists of texts.
			if c, want := Compare(a, all[k]), slices.Compare(texts(a), texts(all[k])); c != want {
				t.Errorf("%q and %q: %d instead of %d", a, all[k], c, want)
			}
		}
	}
}

// texts returns the names and values of labels.
func texts(l []api.Label) []string {
	var s []string
	for _, x := range l {
		s = append(s, x.Name, x.Value)
	}
	return s
}

// P5.1: some texts, written out, of label sets and of other lists.
func TestFormat(t *testing.T) {
	for _, c := range []struct {
		l []api.Label
		s string
	}{
		{nil, "{}"}, {[]api.Label{}, "{}"}, {list("__name__", "up", "job", "a\"b"), "{__name__=\"up\",job=\"a\\\"b\"}"}, {list("job", "a\"b"), "{job=\"a\\\"b\"}"},
		{list("a", "\\"), "{a=\"\\\\\"}"}, {list("a", "\n"), "{a=\"\\n\"}"}, {list("a", "\\n"), "{a=\"\\\\n\"}"}, {list("a", "\\\n\"n"), "{a=\"\\\\\\n\\\"n\"}"}, {list("a", notText), "{a=\"" + notText + "\"}"},
		{list("", ""), "{=\"\"}"}, {list("b", "1", "a", "", "b", "2"), "{b=\"1\",a=\"\",b=\"2\"}"}, {list("a\"\\\nb", "x"), "{a\"\\\nb=\"x\"}"},
	} {
		if s := Format(c.l); s != c.s {
			t.Errorf("%q: %q instead of %q", c.l, s, c.s)
		}
	}
	for b := range 256 {
		c := string([]byte{byte(b)})
		for _, value := range []string{c, c + "x", "x" + c, c + c} {
			checkAlone(t, list("a", value))
			checkParse(t, "{a=\""+value+"\"}")
			checkParse(t, "{a=\"\\"+value+"\"}")
		}
	}
}

// P5.1: texts, and what is none.
func TestParse(t *testing.T) {
	big := strings.Repeat("v", 200)
	for _, c := range []struct {
		s    string
		want []api.Label
		e    api.Errno
	}{
		{"{}", nil, api.OK}, {"{a=\"x\"}", list("a", "x"), api.OK}, {"{__name__=\"up\",job=\"a\\\"b\"}", list("__name__", "up", "job", "a\"b"), api.OK}, {"{a=\"\\\\\\\"\\n\\\\n\"}", list("a", "\\\"\n\\n"), api.OK}, {"{a=\"}\",b=\"{\",c=\",d=\"}", list("a", "}", "b", "{", "c", ",d="), api.OK},
		{"{a=\"" + notText + "\"}", list("a", notText), api.OK}, {"{a=\"" + big + "\"}", list("a", big), api.OK}, {"{a=\"" + strings.Repeat("\\n", 200) + "\"}", list("a", strings.Repeat("\n", 200)), api.OK}, {"{" + strings.Repeat("Z", 60) + "=\"x\"}", list(strings.Repeat("Z", 60), "x"), api.OK},
		{"", nil, api.ErrSyntax}, {"{", nil, api.ErrSyntax}, {"}", nil, api.ErrSyntax}, {"}{", nil, api.ErrSyntax}, {"{{}}", nil, api.ErrSyntax}, {"{}{}", nil, api.ErrSyntax}, {"{}}", nil, api.ErrSyntax}, {"{},", nil, api.ErrSyntax}, {"{,}", nil, api.ErrSyntax}, {"{ }", nil, api.ErrSyntax}, {" {}", nil, api.ErrSyntax}, {"{} ", nil, api.ErrSyntax}, {"{}\n", nil, api.ErrSyntax}, {"{}\x00", nil, api.ErrSyntax}, {"a=\"x\"", nil, api.ErrSyntax}, {"[a=\"x\"]", nil, api.ErrSyntax},
		{"{a}", nil, api.ErrSyntax}, {"{a=}", nil, api.ErrSyntax}, {"{a=x}", nil, api.ErrSyntax}, {"{a='x'}", nil, api.ErrSyntax}, {"{a=\"}", nil, api.ErrSyntax}, {"{a=\"x}", nil, api.ErrSyntax}, {"{a=x\"}", nil, api.ErrSyntax}, {"{a\"x\"}", nil, api.ErrSyntax}, {"{=\"x\"}", nil, api.ErrSyntax}, {"{\"x\"}", nil, api.ErrSyntax}, {"{a=\"x\"", nil, api.ErrSyntax}, {"{a=\"x\",", nil, api.ErrSyntax}, {"{a=\"x\",b", nil, api.ErrSyntax}, {"a=\"x\"}", nil, api.ErrSyntax}, {"{a==\"x\"}", nil, api.ErrSyntax}, {"{a!=\"x\"}", nil, api.ErrSyntax},
		{"{a=\"x\",}", nil, api.ErrSyntax}, {"{,a=\"x\"}", nil, api.ErrSyntax}, {"{a=\"x\",,b=\"y\"}", nil, api.ErrSyntax}, {"{a=\"x\"b=\"y\"}", nil, api.ErrSyntax}, {"{a=\"x\";b=\"y\"}", nil, api.ErrSyntax}, {"{a=\"x\"}{b=\"y\"}", nil, api.ErrSyntax}, {"{a=\"x\"},{b=\"y\"}", nil, api.ErrSyntax},
		{"{ a=\"x\"}", nil, api.ErrSyntax}, {"{a =\"x\"}", nil, api.ErrSyntax}, {"{a= \"x\"}", nil, api.ErrSyntax}, {"{a=\"x\" }", nil, api.ErrSyntax}, {"{a=\"x\", b=\"y\"}", nil, api.ErrSyntax}, {"{a=\"x\" ,b=\"y\"}", nil, api.ErrSyntax},
		{"{a=\"\\\"}", nil, api.ErrSyntax}, {"{a=\"\\", nil, api.ErrSyntax}, {"{a=\"x\\\"}", nil, api.ErrSyntax}, {"{a=\"\\t\"}", nil, api.ErrSyntax}, {"{a=\"\\N\"}", nil, api.ErrSyntax}, {"{a=\"\\'\"}", nil, api.ErrSyntax}, {"{a=\"\\}\"}", nil, api.ErrSyntax}, {"{a=\"\\\n\"}", nil, api.ErrSyntax}, {"{a=\"\n\"}", nil, api.ErrSyntax}, {"{a=\"x\ny\"}", nil, api.ErrSyntax}, {"{a=\"\"x\"}", nil, api.ErrSyntax}, {"{a=\"x\"\"y\"}", nil, api.ErrSyntax},
		{"{a-b=\"x\"}", nil, api.ErrSyntax}, {"{é=\"x\"}", nil, api.ErrSyntax}, {"{a\\n=\"x\"}", nil, api.ErrSyntax}, {"{a\n=\"x\"}", nil, api.ErrSyntax}, {"{1=\"x\",=\"y\"}", nil, api.ErrSyntax}, {"{a=\"\",b}", nil, api.ErrSyntax},
		{"{1=\"x\"}", nil, api.ErrName}, {"{1a=\"x\"}", nil, api.ErrName}, {"{" + strings.Repeat("Z", 61) + "=\"x\"}", nil, api.ErrName}, {"{1=\"\"}", nil, api.ErrName}, {"{a=\"\"}", nil, api.ErrArgument}, {"{a=\"x\",b=\"\"}", nil, api.ErrArgument}, {"{b=\"x\",a=\"\"}", nil, api.ErrArgument}, {"{a=\"" + big + "v\"}", nil, api.ErrLimit}, {"{a=\"" + strings.Repeat("\\n", 201) + "\"}", nil, api.ErrLimit}, {"{b=\"x\",a=\"x\"}", nil, api.ErrOrder}, {"{a=\"x\",a=\"x\"}", nil, api.ErrOrder}, {"{b=\"x\",a=\"x\",1=\"\"}", nil, api.ErrOrder},
		{wantText(many(16)), many(16), api.OK}, {wantText(many(17)), nil, api.ErrLimit}, {wantText(slices.Concat(list("1", ""), many(16))), nil, api.ErrLimit}, {wantText(many(17)) + "}", nil, api.ErrSyntax},
	} {
		if l, e := Parse(c.s); e != c.e || !slices.Equal(l, c.want) {
			t.Errorf("%q: %q, error %d instead of %q, error %d", c.s, l, e, c.want, c.e)
		}
		checkParse(t, c.s)
	}
}

// P5.1: texts with each byte left out, doubled and changed to each other one, with each byte in each place, and cut.
func TestChangedTexts(t *testing.T) {
	parsed := 0
	try := func(parts ...string) {
		if checkParse(t, strings.Join(parts, "")) == api.OK {
			parsed++
		}
	}
	for _, l := range [][]api.Label{nil, list("a", "x"), list("B_9", "\\", "a", "\"\n", "c", "n"), list("__name__", "up", "job", notText)} {
		s := wantText(l)
		for i := range len(s) {
			before, here, behind := s[:i], s[i:i+1], s[i+1:]
			try(before)
			try(here, behind)
			try(before, behind)
			try(before, here, here, behind)
			for b := range 256 {
				try(before, string([]byte{byte(b)}), behind)
				try(before, string([]byte{byte(b)}), here, behind)
			}
		}
		for b := range 256 {
			try(s, string([]byte{byte(b)}))
		}
	}
	if parsed < 1000 {
		t.Errorf("only %d texts could be parsed", parsed)
	}
}

// P5.1: all short continuations of some beginnings.
func TestShortTexts(t *testing.T) {
	parsed := 0
	signs := []string{"{", "}", "a", "=", "\"", ",", "\\", "n", "\n", "1"}
	for _, end := range tuples(signs, 4) {
		for _, beginning := range []string{"", "{", "{a", "{a=\"", "{a=\"x", "{a=\"\\", "{a=\"x\"", "{a=\"x\",", "{a=\"x\",n=\"", "{a=\"x\"}"} {
			for _, last := range []string{"", "}", "\"}"} {
				if checkParse(t, beginning+strings.Join(end, "")+last) == api.OK {
					parsed++
				}
			}
		}
	}
	if parsed < 1000 {
		t.Errorf("only %d texts could be parsed", parsed)
	}
}

// P5.1: for arbitrary texts, the results are those of regular expressions.
func FuzzParse(f *testing.F) {
	for _, l := range [][]api.Label{nil, list("a", "x"), list("__name__", "up", "job", "a\"b\\c\nd"), list("b", "", "a", notText), many(17)} {
		f.Add(wantText(l))
	}
	f.Add("{a=\"x\", b=\"\\t\",}")
	f.Fuzz(func(t *testing.T, s string) {
		checkParse(t, s)
		if h := HashString(s); h != wantHash(s) {
			t.Errorf("%q: hash %d", s, h)
		}
	})
}

// P5.1: for arbitrary lists and names, the results are those of the standard library.
func FuzzLists(f *testing.F) {
	f.Add("a,1,b,2,c,3", "a,c,x", "b", "x")
	f.Add("b,1,a,,b,2,,3,1,4", "a,a,", "", "\"\\\n")
	f.Add(strings.Repeat("n,v,", 17), "", "n", "")
	f.Fuzz(func(t *testing.T, labels, names, name, value string) {
		l := split(labels)
		checkAlone(t, l)
		checkNames(t, l, strings.Split(names, ","))
		checkName(t, l, name, value)
		sorted := slices.Clone(l)
		slices.SortFunc(sorted, func(x, y api.Label) int { return strings.Compare(x.Name, y.Name) })
		checkAlone(t, sorted)
		checkName(t, sorted, name, value)
		if c, want := Compare(l, sorted), slices.Compare(texts(l), texts(sorted)); c != want {
			t.Errorf("%q and %q: %d instead of %d", l, sorted, c, want)
		}
	})
}

// split returns the labels of names and values that are separated by commas.
func split(s string) []api.Label {
	parts := strings.Split(s, ",")
	return list(parts[:len(parts)/2*2]...)
}

// P5.1: arguments are not changed, also where there is room behind them, and results are new memory.
func TestMemory(t *testing.T) {
	random := rand.New(rand.NewSource(5))
	all := lists()
	for range 3000 {
		checkMemory(t, all[random.Intn(len(all))], names()[random.Intn(len(names()))])
	}
	for n := range 18 {
		checkMemory(t, many(n), []string{"nA", "nC", "x"})
	}
}

func checkMemory(t *testing.T, l []api.Label, names []string) {
	t.Helper()
	other := api.Label{Name: "other", Value: "other"}
	around := slices.Concat(l, []api.Label{other, other, other})
	wide := slices.Concat(names, []string{"other", "other"})
	arg, argNames := around[:len(l)], wide[:len(names)]
	s := Format(arg)
	Check(arg)
	Hash(arg)
	Get(arg, "a")
	Compare(arg, slices.Clone(arg))
	parsed, _ := Parse(s)
	again, _ := Parse(s)
	results := [][]api.Label{Keep(arg, argNames), Keep(arg, argNames), Drop(arg, argNames), Drop(arg, nil), With(arg, "b", "x"), With(arg, "b", ""), With(arg, "nowhere", ""), With(arg, "zz", "x"), parsed, again}
	var copies [][]api.Label
	for _, r := range results {
		copies = append(copies, slices.Clone(r))
	}
	for i, r := range results {
		r = r[:cap(r)]
		for k := range r {
			r[k] = api.Label{Name: "overwritten", Value: "overwritten"}
		}
		for k := i + 1; k < len(results); k++ {
			checkList(t, results[k], copies[k], "result", k, "after", i)
		}
	}
	checkList(t, around, slices.Concat(l, []api.Label{other, other, other}), "argument")
	if !slices.Equal(wide, slices.Concat(names, []string{"other", "other"})) {
		t.Errorf("names: %q", wide)
	}
}

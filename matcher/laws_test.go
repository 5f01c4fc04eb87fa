package matcher

import (
	"math/rand"
	"slices"
	"strconv"
	"strings"
	"testing"

	"lookout/api"
)

// lawful returns valid matchers of all kinds, with the names a and b.
func lawful() []api.Matcher {
	return slices.Concat(all([]int{1, 2}, "a", "", "x", "xy"), all([]int{3, 4}, "a", "", "x", "x.*", "xy.*", "y.*|", "x|y", "(x)", "[^x]", none), all([]int{1, 2}, "b", "x"), all([]int{3, 4}, "b", ".", `x\.?`))
}

// spaces returns lists of labels with values of the names a and b: absent, from some values, and empty ones.
func spaces() [][]api.Label {
	all := [][]api.Label{labelsOf("a", "", "a", "x"), labelsOf("b", "x", "a", "x", "a", "y")}
	for _, a := range []string{"", "x", "y", "xy", "xyx", "yx", "z", "x."} {
		for _, b := range []string{"", "x", "x.", "yy"} {
			var l []api.Label
			if a != "" {
				l = append(l, labelsOf("a", a)...)
			}
			if b != "" {
				l = append(l, labelsOf("b", b)...)
			}
			all = append(all, l)
		}
	}
	return all
}

// matched returns for each of the spaces whether a list matches it.
func matched(l []api.Matcher, spaces [][]api.Label) []bool {
	var is []bool
	for _, labels := range spaces {
		is = append(is, Matches(l, labels))
	}
	return is
}

// P7.2: one of a matcher and its negation matches; negated again it is itself.
func TestLawsOfNegation(t *testing.T) {
	long := strings.Repeat("v", 200)
	for _, m := range slices.Concat(lawful(), all([]int{1, 2, 3, 4}, "_", long, notText), all([]int{1, 2, 3, 4}, strings.Repeat("n", 60), "x")) {
		n := Negate(m)
		if Negate(n) != m || n == m || Check(list(n)) != api.OK {
			t.Errorf("%v, %v, %v", m, n, Negate(n))
		}
		for _, labels := range append(spaces(), labelsOf("_", long), labelsOf("_", notText), labelsOf(m.Name, "x")) {
			if Matches(list(m), labels) == Matches(list(n), labels) {
				t.Errorf("%v and %v: %v", m, n, labels)
			}
			if Matches(list(m, n), labels) {
				t.Errorf("%v and its negation match %v", m, labels)
			}
		}
	}
}

// P7.3: what is simplified matches the same lists of labels; simplifying it again, or in another order, changes nothing.
func TestLawsOfSimplification(t *testing.T) {
	where := spaces()
	random := rand.New(rand.NewSource(7))
	matchers := lawful()
	lists := tuples(matchers, 2)
	for range 1500 {
		var l []api.Matcher
		for range 3 + random.Intn(6) {
			l = append(l, matchers[random.Intn(len(matchers))])
		}
		lists = append(lists, l)
	}
	counts := map[string]int{}
	for _, l := range lists {
		simple, isPossible := Simplify(l)
		before := matched(l, where)
		if !isPossible {
			counts["contradictory"]++
			if slices.Contains(before, true) || len(simple) != 0 {
				t.Errorf("%v is not contradictory: %v", l, simple)
			}
		} else if !slices.Equal(matched(simple, where), before) {
			t.Errorf("%v: simplified %v", l, simple)
		}
		if len(simple) < len(l) && isPossible {
			counts["shorter"]++
		}
		if again, is := Simplify(simple); isPossible && (!is || !slices.Equal(again, simple)) {
			t.Errorf("%v: simplified %v, again %v", l, simple, again)
		}
		mixed := slices.Clone(l)
		random.Shuffle(len(mixed), func(i, k int) { mixed[i], mixed[k] = mixed[k], mixed[i] })
		if other, is := Simplify(mixed); is != isPossible || !slices.Equal(other, simple) {
			t.Errorf("%v: simplified %v, as %v: %v", l, simple, mixed, other)
		}
	}
	if counts["contradictory"] < 300 || counts["shorter"] < 300 {
		t.Errorf("%v", counts)
	}
}

// P7.4: what implies a list is matched only where that is; each valid list implies itself, its simplified form and its parts.
func TestLawsOfImplication(t *testing.T) {
	where := spaces()
	lists := append(tuples(lawful(), 1), list(eq("a", "x"), re("b", ".")), list(re("a", "x.*"), nr("a", "xy.*")), list(nr("a", "x.*"), ne("b", "x")), list(re("a", "x.*"), re("a", "y.*|")), list(eq("a", "x"), eq("a", "xy")), list(ne("a", "x"), ne("a", "xy"), ne("a", "")))
	for _, l := range tuples(lawful(), 2) {
		if !Implies(l, l) {
			t.Errorf("%v does not imply itself", l)
		}
		simple, isPossible := Simplify(l)
		if isPossible && (!Implies(l, simple) || !Implies(simple, l)) {
			t.Errorf("%v and its simplified form %v", l, simple)
		}
	}
	var whether [][]bool
	for _, l := range lists {
		whether = append(whether, matched(l, where))
	}
	implied := 0
	for i, a := range lists {
		for k, b := range lists {
			if !Implies(a, b) {
				continue
			}
			implied++
			for j, labels := range where {
				if whether[i][j] && !whether[k][j] {
					t.Errorf("%v implies %v, but %v", a, b, labels)
				}
			}
		}
	}
	if implied < 200 {
		t.Errorf("only %d implications", implied)
	}
}

// witness returns labels that lists of EqualMatches and NotEqualMatches match that are not contradictory.
func witness(l []api.Matcher) []api.Label {
	values := map[string]string{}
	for i, m := range l {
		values[m.Name] = "fresh" + strconv.Itoa(i)
	}
	for _, m := range l {
		if m.Kind == api.EqualMatch {
			values[m.Name] = m.Value
		}
	}
	var labels []api.Label
	for name, value := range values {
		labels = append(labels, labelsOf(name, value)...)
	}
	return labels
}

// isContradictory is defined for valid lists.
func isContradictory(l []api.Matcher) bool {
	_, isPossible := Simplify(l)
	return !isPossible
}

// checkDecision tests P7.5 for valid lists of which a has less than 16 matchers.
func checkDecision(t *testing.T, a, b []api.Matcher) bool {
	t.Helper()
	isRefuted := true
	for _, m := range b {
		isRefuted = isRefuted && isContradictory(append(slices.Clip(a), Negate(m)))
	}
	is := Implies(a, b)
	if is != isRefuted {
		t.Errorf("%v, %v: %v", a, b, is)
	}
	return is
}

// P7.5: lists of EqualMatches and NotEqualMatches that are not contradictory match something, and implication is decided.
func TestDecision(t *testing.T) {
	matchers := slices.Concat(all([]int{1, 2}, "a", "", "x", "y"), all([]int{1, 2}, "b", "x", ""))
	for _, l := range tuples(matchers, 4) {
		if is := isContradictory(l); is == Matches(l, witness(l)) {
			t.Errorf("%v: contradictory: %v", l, is)
		}
	}
	counts := map[bool]int{}
	for _, a := range tuples(matchers, 2) {
		for _, b := range tuples(matchers, 2) {
			counts[checkDecision(t, a, b)]++
		}
	}
	random := rand.New(rand.NewSource(7))
	some := func(n int) []api.Matcher {
		var l []api.Matcher
		for range n {
			kind := 2 - random.Intn(12)/11
			l = append(l, api.Matcher{Kind: kind, Name: string("abcd"[random.Intn(4)]), Value: strings.Repeat("v", random.Intn(201))})
		}
		return l
	}
	for range 3000 {
		a, b := some(random.Intn(16)), some(random.Intn(3))
		counts[checkDecision(t, a, b)]++
		counts[checkDecision(t, a, a[:len(a)/2])]++
		if !isContradictory(a) && !Matches(a, witness(a)) {
			t.Errorf("%v does not match %v", a, witness(a))
		}
	}
	if counts[true] < 2000 || counts[false] < 2000 {
		t.Errorf("%v", counts)
	}
}

// P7.6: the text of a valid list is parsed as this list, and no two lists have the same text.
func TestTextsOfLists(t *testing.T) {
	seen := map[string]int{}
	lists := tuples(slices.Concat(lawful(), all([]int{1, 2, 3, 4}, "_9", "\"", "\\\\", "\n", "\\n", notText, "a=\"x\",", strings.Repeat("\"", 200))), 2)
	lists = append(lists, slices.Repeat(lawful()[:1], 16), lawful()[:16], all([]int{1, 2, 3, 4}, strings.Repeat("n", 60), "", "\n", "\"", "{}"))
	for i, l := range lists {
		s := Format(l)
		if m, e := Parse(s); e != api.OK || !slices.Equal(m, l) {
			t.Errorf("%v: %v, error %d", l, m, e)
		}
		if k, is := seen[s]; is && !slices.Equal(l, lists[k]) {
			t.Errorf("%v and %v have the same text", l, lists[k])
		}
		seen[s] = i
	}
}

// P7.6: what can be parsed is the text of the result, a valid list; for the rest there are no matchers.
func TestParsedTexts(t *testing.T) {
	parsed, failed := 0, 0
	parts := []string{"{", "}", "a", "=", "!", "~", "\"", ",", "\\", "n", "\xff"}
	for _, beginning := range []string{"", "{a=\"", "{a=\"x\",b!~\"", "{a=\"x\",b=~\"x\""} {
		for _, end := range tuples(parts, 4) {
			s := beginning + strings.Join(end, "")
			for _, s := range []string{s, s + "}", s + "\"}"} {
				l, e := Parse(s)
				if e != api.OK {
					failed++
					if len(l) != 0 {
						t.Errorf("%q: %v and error %d", s, l, e)
					}
					continue
				}
				parsed++
				if x := Format(l); x != s || Check(l) != api.OK {
					t.Errorf("%q: %v with the text %q", s, l, x)
				}
			}
		}
	}
	if parsed < 500 || failed < 100000 {
		t.Errorf("only %d texts and %d others", parsed, failed)
	}
}

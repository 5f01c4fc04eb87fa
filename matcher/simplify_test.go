package matcher

import (
	"math/rand"
	"slices"
	"strings"
	"testing"

	"lookout/api"
)

// P7.1: each step of simplifying alone, and behind others.
func TestSimplify(t *testing.T) {
	long := strings.Repeat("v", 200)
	// A list without matchers that is not nil; nil stands for contradictory ones.
	empty := []api.Matcher{}
	for _, c := range []struct {
		l, want []api.Matcher
	}{
		{nil, empty}, {list(eq("a", "x")), list(eq("a", "x"))}, {list(ne("b", "q"), re("b", "y.*"), re("a", "x"), ne("a", "w")), list(eq("a", "x"), re("b", "y.*"))}, {list(eq("a", "x"), ne("a", "x")), nil},
		// Step 1: regular expressions for one string.
		{list(re("a", "x")), list(eq("a", "x"))}, {list(nr("a", "x")), list(ne("a", "x"))}, {list(re("a", "")), list(eq("a", ""))}, {list(nr("a", "")), list(ne("a", ""))}, {list(re("a", `x\.\\\n`)), list(eq("a", "x.\\\n"))}, {list(nr("a", `\|`)), list(ne("a", "|"))}, {list(re("a", long)), list(eq("a", long))},
		{list(eq("a", `x\.`)), list(eq("a", `x\.`))}, {list(ne("a", `x\.`)), list(ne("a", `x\.`))}, {list(eq("a", "x*")), list(eq("a", "x*"))}, {list(ne("a", "(")), list(ne("a", "("))},
		{list(re("a", "[x]")), list(re("a", "[x]"))}, {list(re("a", "(x)")), list(re("a", "(x)"))}, {list(re("a", "x|x")), list(re("a", "x|x"))}, {list(nr("a", "x?")), list(nr("a", "x?"))}, {list(nr("a", `\d`)), list(nr("a", `\d`))}, {list(re("a", "x.")), list(re("a", "x."))},
		// Step 2: regular expressions that match nothing.
		{list(nr("a", none)), empty}, {list(re("a", none)), nil}, {list(nr("a", "x"+none)), empty}, {list(re("a", "(x"+none+")+")), nil}, {list(re("a", none+"*")), list(re("a", none+"*"))}, {list(nr("a", none+"|x")), list(nr("a", none+"|x"))}, {list(eq("a", none)), list(eq("a", none))}, {list(ne("a", none)), list(ne("a", none))},
		{list(eq("b", "x"), nr("a", none), nr("b", none)), list(eq("b", "x"))}, {list(re("a", none), re("a", none)), nil}, {list(eq("b", "x"), re("a", none)), nil}, {list(nr("a", none), re("a", none)), nil}, {list(nr("a", none), ne("a", "x")), list(ne("a", "x"))}, {list(re("a", "x.*"), nr("a", "x"+none)), list(re("a", "x.*"))},
		// Step 3: an EqualMatch beside others with the name.
		{list(eq("a", "x"), eq("a", "x")), list(eq("a", "x"))}, {list(eq("a", "x"), eq("a", "x"), eq("a", "x")), list(eq("a", "x"))}, {list(eq("a", "x"), eq("a", "y")), nil}, {list(eq("a", "x"), eq("a", "x"), eq("a", "y")), nil}, {list(eq("a", "x"), eq("a", "y"), eq("a", "x")), nil}, {list(eq("a", "y"), eq("a", "x"), eq("a", "x")), nil}, {list(eq("a", ""), eq("a", "x")), nil},
		{list(eq("a", "x"), ne("a", "y")), list(eq("a", "x"))}, {list(ne("a", "y"), eq("a", "x")), list(eq("a", "x"))}, {list(ne("a", "x"), eq("a", "x")), nil}, {list(eq("a", ""), ne("a", "")), nil}, {list(eq("a", "x"), ne("a", "")), list(eq("a", "x"))},
		{list(eq("a", "xy"), re("a", "x.*")), list(eq("a", "xy"))}, {list(re("a", "x.*"), eq("a", "yx")), nil}, {list(eq("a", "xy"), re("a", "x.*"), re("a", ".y")), list(eq("a", "xy"))}, {list(eq("a", "xy"), re("a", "x.*"), re("a", ".x")), nil},
		{list(eq("a", "x"), nr("a", "y.*")), list(eq("a", "x"))}, {list(nr("a", "x.*"), eq("a", "x")), nil}, {list(eq("a", "x"), nr("a", ".|y")), nil}, {list(eq("a", "x"), nr("a", none)), list(eq("a", "x"))},
		{list(eq("a", "x"), eq("b", "x")), list(eq("a", "x"), eq("b", "x"))}, {list(eq("a", "x"), eq("b", "y"), ne("b", "x"), ne("a", "y")), list(eq("a", "x"), eq("b", "y"))}, {list(eq("a", "x"), ne("b", "x")), list(eq("a", "x"), ne("b", "x"))}, {list(eq("a", "x"), eq("b", "y"), ne("b", "y")), nil}, {list(eq("a", "x"), re("A", "y.*"), nr("aa", "x.*")), list(re("A", "y.*"), eq("a", "x"), nr("aa", "x.*"))},
		// Step 3 behind step 1.
		{list(re("a", "x"), eq("a", "x")), list(eq("a", "x"))}, {list(re("a", "x"), re("a", "y")), nil}, {list(re("a", `x\.`), eq("a", "x.")), list(eq("a", "x."))}, {list(nr("a", "x"), eq("a", "x")), nil}, {list(nr("a", `\.`), re("a", "x.*"), re("a", "xy")), list(eq("a", "xy"))}, {list(re("a", "y"), re("a", "x.*")), nil},
		// Step 4: RegexMatches with prefixes.
		{list(re("a", "x.*"), re("a", "y.*")), nil}, {list(re("a", "x.*"), re("a", "xy.*")), list(re("a", "x.*"), re("a", "xy.*"))}, {list(re("a", "xy.*"), re("a", "x.*")), list(re("a", "x.*"), re("a", "xy.*"))}, {list(re("a", "xy.*"), re("a", "xz.*")), nil}, {list(re("a", "x.*"), re("a", "x.")), list(re("a", "x."), re("a", "x.*"))}, {list(re("a", "x|z"), re("a", "y.*")), list(re("a", "x|z"), re("a", "y.*"))}, {list(re("a", "[x]"), re("a", "[y]")), list(re("a", "[x]"), re("a", "[y]"))}, {list(re("a", ".*"), re("a", "y.*")), list(re("a", ".*"), re("a", "y.*"))},
		{list(re("a", "x.*"), re("b", "y.*")), list(re("a", "x.*"), re("b", "y.*"))}, {list(re("a", "x.*"), re("a", "xx.*"), re("a", "xy.*")), nil}, {list(re("a", "x.*"), ne("b", "z"), re("a", "y.*")), nil}, {list(re("a", `\..`), re("a", "x.")), nil}, {list(re("a", "x.*"), nr("a", none), re("a", "y.*")), nil},
		// Step 5: what a RegexMatch excludes.
		{list(re("a", "x.*"), ne("a", "y")), list(re("a", "x.*"))}, {list(ne("a", "y"), re("a", "x.*")), list(re("a", "x.*"))}, {list(re("a", "x.*"), ne("a", "x1")), list(ne("a", "x1"), re("a", "x.*"))}, {list(re("a", "x.*"), ne("a", "")), list(re("a", "x.*"))}, {list(re("a", "x|z"), ne("a", "y"), ne("a", "z"), ne("a", "")), list(ne("a", "z"), re("a", "x|z"))},
		{list(re("a", "x.*"), nr("a", "y.*")), list(re("a", "x.*"))}, {list(nr("a", "y.*"), re("a", "x.*")), list(re("a", "x.*"))}, {list(re("a", "x.*"), nr("a", "xy.*")), list(re("a", "x.*"), nr("a", "xy.*"))}, {list(re("a", "xy.*"), nr("a", "x.*")), list(re("a", "xy.*"), nr("a", "x.*"))}, {list(re("a", "x.*"), nr("a", "y|z")), list(re("a", "x.*"), nr("a", "y|z"))}, {list(re("a", "x.*"), nr("a", "x.*")), list(re("a", "x.*"), nr("a", "x.*"))}, {list(re("a", "xy.*"), nr("a", "xz.*")), list(re("a", "xy.*"))},
		{list(re("a", "x.*"), ne("b", "y"), nr("b", "y.*")), list(re("a", "x.*"), ne("b", "y"), nr("b", "y.*"))}, {list(nr("a", "x.*"), ne("a", "xy")), list(ne("a", "xy"), nr("a", "x.*"))}, {list(nr("a", "x.*"), nr("a", "y.*"), ne("a", "z")), list(ne("a", "z"), nr("a", "x.*"), nr("a", "y.*"))}, {list(re("a", ".*"), re("a", "x.*"), ne("a", "y"), nr("a", "y.")), list(re("a", ".*"), re("a", "x.*"))},
		// Step 5 behind step 1.
		{list(re("a", "x.*"), nr("a", "y")), list(re("a", "x.*"))}, {list(re("a", "x.*"), nr("a", "xy")), list(ne("a", "xy"), re("a", "x.*"))}, {list(re("a", "x."), nr("a", "x")), list(re("a", "x."))},
		// Step 6: the order, each once.
		{list(ne("a", "y"), ne("a", "x"), ne("a", "y")), list(ne("a", "x"), ne("a", "y"))}, {list(nr("b", "."), re("b", "."), ne("b", "x"), eq("a", "z"), ne("a1", "x"), ne("_", "x"), ne("B", "x")), list(ne("B", "x"), ne("_", "x"), eq("a", "z"), ne("a1", "x"), ne("b", "x"), re("b", "."), nr("b", "."))}, {list(ne("a", "xx"), ne("a", "\xff"), ne("a", "é"), ne("a", "X"), ne("a", "x"), ne("a", "")), list(ne("a", ""), ne("a", "X"), ne("a", "x"), ne("a", "xx"), ne("a", "é"), ne("a", "\xff"))},
		{list(nr("a", "x."), nr("a", "x."), nr("a", "x.")), list(nr("a", "x."))}, {list(re("a", "x."), re("a", "x."), re("b", "x.")), list(re("a", "x."), re("b", "x."))}, {list(nr("a", "x"), ne("a", "x")), list(ne("a", "x"))}, {slices.Repeat(list(ne("a", "x"), ne("b", "x")), 8), list(ne("a", "x"), ne("b", "x"))},
	} {
		l, isPossible := Simplify(c.l)
		if isPossible != (c.want != nil) || !slices.Equal(l, c.want) {
			t.Errorf("%v: %v, %v instead of %v", c.l, l, isPossible, c.want)
		}
		checkAlone(t, c.l)
	}
}

// P7.1: each of the ways to imply a matcher, lists that are contradictory, and several matchers.
func TestImplies(t *testing.T) {
	never := list(eq("a", "x"), eq("a", "y"))
	for _, c := range []struct {
		a, b []api.Matcher
		want bool
	}{
		{nil, nil, true}, {list(eq("a", "x")), nil, true}, {nil, list(eq("a", "x")), false}, {nil, list(eq("a", "")), false}, {nil, list(nr("a", none)), true}, {nil, list(nr("a", "x.")), false}, {nil, list(re("a", ".*")), false},
		// It contains the matcher, perhaps after simplifying.
		{list(eq("a", "x"), ne("b", "y")), list(ne("b", "y")), true}, {list(re("a", "x")), list(eq("a", "x")), true}, {list(ne("a", "x")), list(nr("a", "x")), true}, {list(re("a", "x.")), list(re("a", "x.")), true}, {list(nr("a", "x.")), list(nr("a", "x.")), true}, {list(nr("a", "x.")), list(nr("b", "x.")), false}, {list(re("a", "x.")), list(re("a", "x.*")), false}, {list(re("a", "x.*")), list(re("a", ".*")), false}, {list(re("a", "x.")), list(nr("a", "x.")), false}, {list(ne("a", "x")), list(eq("a", "x")), false},
		// It has an EqualMatch with a value that matches.
		{list(eq("a", "x")), list(re("a", "x|y")), true}, {list(eq("a", "x")), list(re("a", "y|z")), false}, {list(eq("a", "x")), list(ne("a", "y"), nr("a", "z.*")), true}, {list(eq("a", "x")), list(nr("a", "x|y")), false}, {list(eq("a", "x")), list(ne("b", "y")), false}, {list(eq("a", "x")), list(re("b", "x|y")), false}, {list(eq("a", "x")), list(eq("a", "y")), false}, {list(eq("a", "")), list(re("a", "x*")), true}, {list(eq("a", "x"), re("a", ".")), list(re("a", ".")), true}, {list(eq("a", "x")), list(ne("a", "x")), false},
		// It has a RegexMatch that excludes it.
		{list(re("a", "x.*")), list(ne("a", "y")), true}, {list(re("a", "x.*")), list(ne("a", "xy")), false}, {list(re("a", "x.*")), list(ne("a", "")), true}, {list(re("a", "x.*")), list(nr("a", "y.*")), true}, {list(re("a", "x.*")), list(nr("a", "xy.*")), false}, {list(re("a", "xy.*")), list(nr("a", "x.*")), false}, {list(re("a", "x.*")), list(nr("a", "y|z")), false}, {list(re("a", "x.*")), list(ne("b", "y")), false}, {list(re("a", "x.*")), list(nr("b", "y.*")), false}, {list(re("a", "x.*")), list(eq("a", "x")), false}, {list(re("a", "x.*")), list(re("a", "y.*")), false}, {list(re("a", "x|z"), re("a", "x.*")), list(nr("a", "y.")), true},
		// It has a NotRegexMatch that matches the value of a NotEqualMatch.
		{list(nr("a", "x.*")), list(ne("a", "xy")), true}, {list(nr("a", "x.*")), list(ne("a", "y")), false}, {list(nr("a", "x.*")), list(ne("b", "xy")), false}, {list(nr("a", "x.*")), list(nr("a", "xy.*")), false}, {list(nr("a", "x.*")), list(nr("a", "xy")), true}, {list(nr("a", "x*")), list(ne("a", "")), true}, {list(nr("a", "x.*")), list(re("a", "xy.*")), false}, {list(nr("a", "x.*")), list(eq("a", "xy")), false}, {list(nr("a", "x|y")), list(ne("a", "x"), ne("a", "y")), true}, {list(nr("a", "x|y")), list(ne("a", "x"), ne("a", "z")), false}, {list(ne("a", "xy")), list(nr("a", "x.*")), false},
		// Contradictory lists.
		{never, nil, true}, {never, never, true}, {never, list(eq("b", "z")), true}, {list(re("a", none)), list(eq("b", "z")), true}, {list(re("a", "x.*"), re("a", "y.*")), list(re("b", none)), true}, {nil, never, false}, {list(eq("a", "x")), never, false}, {list(eq("b", "z")), list(re("b", none)), false}, {list(eq("a", "x")), list(eq("a", "x"), ne("a", "x")), false},
		// Several matchers.
		{list(eq("a", "x"), re("b", "y.*")), list(ne("a", "z"), nr("b", "z.*"), re("a", "x?")), true}, {list(eq("a", "x"), re("b", "y.*")), list(ne("a", "z"), nr("b", "z.*"), eq("c", "")), false}, {list(eq("a", "x")), list(eq("c", ""), eq("a", "x")), false}, {list(eq("b", "y"), eq("a", "x")), list(eq("a", "x"), eq("b", "y")), true}, {list(eq("a", "x")), slices.Repeat(list(eq("a", "x")), 16), true}, {slices.Repeat(list(eq("a", "x")), 16), slices.Repeat(list(eq("a", "x")), 16), true},
	} {
		if is := Implies(c.a, c.b); is != c.want {
			t.Errorf("%v, %v: %v", c.a, c.b, is)
		}
		checkImplies(t, c.a, c.b)
	}
}

// P7.1: for all short lists, and for long ones of the same matchers, simplifying is what the six steps are.
func TestManySimplified(t *testing.T) {
	counts := map[bool]int{}
	count := func(l []api.Matcher) {
		checkAlone(t, l)
		_, isPossible := Simplify(l)
		counts[isPossible]++
	}
	matchers := slices.Concat(all([]int{1, 2}, "a", "", "x", "xy"), all([]int{3, 4}, "a", "x", "x.*", "xy.*", "y.*", "x|y", none), list(eq("b", "x"), ne("b", "x"), nr("b", "x.*"), re("b", "x.*")))
	for _, l := range tuples(matchers, 3) {
		count(l)
	}
	random := rand.New(rand.NewSource(7))
	for range 3000 {
		var l []api.Matcher
		for range random.Intn(17) {
			l = append(l, matchers[random.Intn(len(matchers))])
		}
		count(l)
	}
	if counts[true] < 2000 || counts[false] < 2000 {
		t.Errorf("%v", counts)
	}
}

// P7.1: for pairs of short lists, implication is what the chapter tells.
func TestManyImplied(t *testing.T) {
	counts := map[bool]int{}
	matchers := slices.Concat(all([]int{1, 2}, "a", "x", "xy"), all([]int{3, 4}, "a", "x", "x.*", "y.*", "x|y"), list(nr("a", none), re("a", none), ne("b", "x"), nr("b", "x.*")))
	for i, a := range tuples(matchers, 2) {
		for k, b := range tuples(matchers, 2) {
			if len(a)+len(b) < 4 || (i+k)%5 == 0 {
				counts[checkImplies(t, a, b)]++
			}
		}
	}
	if counts[true] < 2000 || counts[false] < 2000 {
		t.Errorf("%v", counts)
	}
}

package matcher

import (
	"cmp"
	"slices"
	"strings"

	"lookout/api"
	"lookout/regex"
)

// Simplify returns matchers with the same meaning, and whether they can be satisfied, as far as this is seen.
func Simplify(l []api.Matcher) ([]api.Matcher, bool) {
	if Check(l) != api.OK {
		return nil, false
	}
	simple := literals(l)
	// One set serves all further steps, since a matcher that one step leaves out would change nothing in the next ones.
	s := setOf(simple)
	if slices.ContainsFunc(simple, s.contradicts) {
		return nil, false
	}
	simple = slices.DeleteFunc(simple, s.replaces)
	slices.SortFunc(simple, compare)
	return slices.Compact(simple), true
}

// Implies reports whether every label set that satisfies a satisfies b, as far as this is seen.
func Implies(a, b []api.Matcher) bool {
	if Check(a) != api.OK || Check(b) != api.OK {
		return false
	}
	known, isPossible := Simplify(a)
	if !isPossible {
		return true
	}
	asked, isPossible := Simplify(b)
	return isPossible && len(slices.DeleteFunc(asked, setOf(known).implies)) == 0
}

// literals returns matchers with strings instead of the regular expressions that match only one.
func literals(l []api.Matcher) []api.Matcher {
	var out []api.Matcher
	for _, m := range l {
		out = append(out, literal(m))
	}
	return out
}

func literal(m api.Matcher) api.Matcher {
	if !isRegex(m) {
		return m
	}
	value, isOnly := regex.Prefix(m.Value)
	switch {
	case !isOnly:
		return m
	case m.Kind == api.RegexMatch:
		return api.Matcher{Kind: api.EqualMatch, Name: m.Name, Value: value}
	default:
		return api.Matcher{Kind: api.NotEqualMatch, Name: m.Name, Value: value}
	}
}

func compare(a, b api.Matcher) int {
	return cmp.Or(cmp.Compare(a.Name, b.Name), cmp.Compare(a.Kind, b.Kind), cmp.Compare(a.Value, b.Value))
}

// set has the matchers of each name.
type set map[string][]api.Matcher

func setOf(l []api.Matcher) set {
	s := set{}
	for _, m := range l {
		s[m.Name] = append(s[m.Name], m)
	}
	return s
}

// ensures reports whether m matches whenever the set does: because it always matches, or by what an EqualMatch or a RegexMatch tells.
func (s set) ensures(m api.Matcher) bool {
	if m.Kind == api.NotRegexMatch && regex.Empty(m.Value) {
		return true
	}
	return slices.ContainsFunc(s[m.Name], func(x api.Matcher) bool { return tells(x, m) })
}

// contradicts reports whether the set with m, one of its matchers, is contradictory.
func (s set) contradicts(m api.Matcher) bool {
	return s.ensures(Negate(m))
}

// replaces reports whether a set that is not contradictory means the same without m. An EqualMatch ensures itself; equal ones are found when they are in order.
func (s set) replaces(m api.Matcher) bool {
	return m.Kind != api.EqualMatch && s.ensures(m)
}

// implies reports whether the set, a simplified one, implies m.
func (s set) implies(m api.Matcher) bool {
	return slices.Contains(s[m.Name], m) || s.ensures(m) || m.Kind == api.NotEqualMatch && s.refuses(m.Name, m.Value)
}

// refuses reports whether a matcher of a name does not match a value. Only that of a NotRegexMatch is news to implies: the others contain or ensure the NotEqualMatch.
func (s set) refuses(name, value string) bool {
	return slices.ContainsFunc(s[name], func(x api.Matcher) bool { return !matches(x, value) })
}

// tells reports whether an EqualMatch or a RegexMatch x with the name of m tells that m matches whatever x matches.
func tells(x, m api.Matcher) bool {
	switch x.Kind {
	case api.EqualMatch:
		return matches(m, x.Value)
	case api.RegexMatch:
		return excludes(x.Value, m)
	default:
		return false
	}
}

// excludes reports whether m only forbids what a regular expression does not match anyway, as far as this is seen.
func excludes(p string, m api.Matcher) bool {
	switch m.Kind {
	case api.NotEqualMatch:
		return !regex.Match(p, m.Value)
	case api.NotRegexMatch:
		return areApart(p, m.Value)
	default:
		return false
	}
}

// areApart reports whether the prefixes of two regular expressions tell that no string matches both.
func areApart(p, q string) bool {
	a, _ := regex.Prefix(p)
	b, _ := regex.Prefix(q)
	return !strings.HasPrefix(a, b) && !strings.HasPrefix(b, a)
}

package matcher

import (
	"regexp"
	"slices"
	"strings"

	"lookout/api"
	"lookout/regex"
)

const (
	matcherPattern = `([A-Za-z0-9_]+)(=|!=|=~|!~)"((?:[^"\\\n]|\\["\\n])*)"`
	textPattern    = `\A\{(?:` + matcherPattern + `(?:,` + matcherPattern + `)*)?\}\z`
)

var (
	nameExpression    = regexp.MustCompile(`\A[A-Za-z_][A-Za-z0-9_]{0,59}\z`)
	matcherExpression = regexp.MustCompile(matcherPattern)
	textExpression    = regexp.MustCompile(textPattern)
)

// wantCheck is what Check must return.
func wantCheck(l []api.Matcher) api.Errno {
	if len(l) >= 17 {
		return api.ErrLimit
	}
	for _, m := range l {
		if !slices.Contains([]int{1, 2, 3, 4}, m.Kind) {
			return api.ErrKind
		}
		if !nameExpression.MatchString(m.Name) {
			return api.ErrName
		}
		if m.Kind <= 2 && len(m.Value) >= 201 {
			return api.ErrLimit
		}
		if e := regex.Check(m.Value); m.Kind >= 3 && e != api.OK {
			return e
		}
	}
	return api.OK
}

// wantValue reports whether a valid matcher must match a value.
func wantValue(m api.Matcher, value string) bool {
	is := m.Value == value
	if m.Kind >= 3 {
		is = regex.Match(m.Value, value)
	}
	return is == (m.Kind%2 == 1)
}

// wantMatches is what Matches must return.
func wantMatches(l []api.Matcher, labels []api.Label) bool {
	values := map[string]string{}
	for _, x := range slices.Backward(labels) {
		values[x.Name] = x.Value
	}
	matched := 0
	for _, m := range l {
		if wantCheck(l) == api.OK && wantValue(m, values[m.Name]) {
			matched++
		}
	}
	return matched == len(l)
}

// wantNegate is what Negate must return.
func wantNegate(m api.Matcher) api.Matcher {
	opposite, is := map[int]int{1: 2, 2: 1, 3: 4, 4: 3}[m.Kind]
	if !is {
		return api.Matcher{}
	}
	return api.Matcher{Kind: opposite, Name: m.Name, Value: m.Value}
}

// wantSimplify is what Simplify must return: it takes the six steps one after the other, as the chapter tells them.
func wantSimplify(l []api.Matcher) ([]api.Matcher, bool) {
	if wantCheck(l) != api.OK {
		return nil, false
	}
	for _, step := range []func(l []api.Matcher) ([]api.Matcher, bool){step1, step2, step3, step4, step5, step6} {
		var isPossible bool
		if l, isPossible = step(l); !isPossible {
			return nil, false
		}
	}
	return l, true
}

func step1(l []api.Matcher) ([]api.Matcher, bool) {
	var out []api.Matcher
	for _, m := range l {
		if s, only := regex.Prefix(m.Value); only && m.Kind >= 3 {
			m = api.Matcher{Kind: m.Kind - 2, Name: m.Name, Value: s}
		}
		out = append(out, m)
	}
	return out, true
}

func step2(l []api.Matcher) ([]api.Matcher, bool) {
	var out []api.Matcher
	for _, m := range l {
		isEmpty := regex.Empty(m.Value)
		if m.Kind == 3 && isEmpty {
			return nil, false
		}
		if m.Kind != 4 || !isEmpty {
			out = append(out, m)
		}
	}
	return out, true
}

func step3(l []api.Matcher) ([]api.Matcher, bool) {
	first := map[string]int{}
	for i, m := range slices.Backward(l) {
		if m.Kind == 1 {
			first[m.Name] = i
		}
	}
	var out []api.Matcher
	for i, m := range l {
		k, is := first[m.Name]
		if is && i != k && !wantValue(m, l[k].Value) {
			return nil, false
		}
		if !is || i == k {
			out = append(out, m)
		}
	}
	return out, true
}

func step4(l []api.Matcher) ([]api.Matcher, bool) {
	for i, x := range l {
		for _, m := range l[i+1:] {
			if x.Kind == 3 && m.Kind == 3 && x.Name == m.Name && !begin(x.Value, m.Value) {
				return nil, false
			}
		}
	}
	return l, true
}

func step5(l []api.Matcher) ([]api.Matcher, bool) {
	var out []api.Matcher
	for _, m := range l {
		if !slices.ContainsFunc(l, func(x api.Matcher) bool { return wantExcludes(x, m) }) {
			out = append(out, m)
		}
	}
	return out, true
}

func step6(l []api.Matcher) ([]api.Matcher, bool) {
	var out []api.Matcher
	for _, m := range l {
		at := 0
		for at < len(out) && isLess(out[at], m) {
			at++
		}
		if at == len(out) || out[at] != m {
			out = slices.Insert(out, at, m)
		}
	}
	return out, true
}

// begin reports whether the string of one of two Prefixes begins with the other one.
func begin(p, q string) bool {
	a, _ := regex.Prefix(p)
	b, _ := regex.Prefix(q)
	n := min(len(a), len(b))
	return a[:n] == b[:n]
}

// wantExcludes reports whether x is a RegexMatch that excludes m.
func wantExcludes(x, m api.Matcher) bool {
	if x.Kind != 3 || x.Name != m.Name {
		return false
	}
	return m.Kind == 2 && !regex.Match(x.Value, m.Value) || m.Kind == 4 && !begin(x.Value, m.Value)
}

// isLess reports whether a is before b in the order of matchers.
func isLess(a, b api.Matcher) bool {
	if a.Name != b.Name {
		return strings.Compare(a.Name, b.Name) < 0
	}
	if a.Kind != b.Kind {
		return a.Kind < b.Kind
	}
	return strings.Compare(a.Value, b.Value) < 0
}

// wantImplies is what Implies must return.
func wantImplies(a, b []api.Matcher) bool {
	if wantCheck(a) != api.OK || wantCheck(b) != api.OK {
		return false
	}
	from, isPossible := wantSimplify(a)
	if !isPossible {
		return true
	}
	to, isPossible := wantSimplify(b)
	for _, m := range to {
		isPossible = isPossible && wantImplied(from, m)
	}
	return isPossible
}

// wantImplied reports whether a simplified list implies m, in one of the four ways.
func wantImplied(l []api.Matcher, m api.Matcher) bool {
	for _, x := range l {
		if x == m || wantExcludes(x, m) {
			return true
		}
		if x.Name == m.Name && x.Kind == 1 && wantValue(m, x.Value) {
			return true
		}
		if x.Name == m.Name && x.Kind == 4 && m.Kind == 2 && regex.Match(x.Value, m.Value) {
			return true
		}
	}
	return false
}

// wantText is the text of matchers, valid or not, with kinds from 1 to 4.
func wantText(l []api.Matcher) string {
	escapes := strings.NewReplacer("\\", "\\\\", "\"", "\\\"", "\n", "\\n")
	var parts []string
	for _, m := range l {
		operator := map[int]string{1: "=", 2: "!=", 3: "=~", 4: "!~"}[m.Kind]
		parts = append(parts, m.Name+operator+"\""+escapes.Replace(m.Value)+"\"")
	}
	return "{" + strings.Join(parts, ",") + "}"
}

// wantFormat is what Format must return.
func wantFormat(l []api.Matcher) string {
	if wantCheck(l) != api.OK {
		return ""
	}
	return wantText(l)
}

// wantParse is what Parse must return.
func wantParse(s string) ([]api.Matcher, api.Errno) {
	if !textExpression.MatchString(s) {
		return nil, api.ErrSyntax
	}
	escapes := strings.NewReplacer("\\\\", "\\", "\\\"", "\"", "\\n", "\n")
	var l []api.Matcher
	for _, m := range matcherExpression.FindAllStringSubmatch(s, -1) {
		kind := map[string]int{"=": 1, "!=": 2, "=~": 3, "!~": 4}[m[2]]
		l = append(l, api.Matcher{Kind: kind, Name: m[1], Value: escapes.Replace(m[3])})
	}
	if e := wantCheck(l); e != api.OK {
		return nil, e
	}
	return l, api.OK
}

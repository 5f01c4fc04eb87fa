package regex

import (
	"strings"
	"testing"

	"lookout/api"
)

// expressions returns expressions of many kinds.
func expressions() []string {
	return []string{"", "a", "b", "ab", "a*", "b+", "a?", "()", "a|b", "a|", "|ab", "ab|a", ".", ".*", "a.", "[ab]", "[^a]", "[^ab]+", "(ab)*", "(a|b)*c", "(a*)*", "(a?b)+", "a*b*", "(aa|b)?", none, "a" + none, none + "|a", none + "*", "\\.", "\\w", "\\d*", "c", "cc", "(a|c)(b|)", "a+b", "aab?"}
}

func group(p string) string {
	return "(" + p + ")"
}

// matched returns the strings that an expression matches.
func matched(t *testing.T, p string, strings []string) map[string]bool {
	t.Helper()
	if Check(p) != api.OK {
		t.Fatalf("%q is no expression", p)
	}
	is := map[string]bool{}
	for _, s := range strings {
		is[s] = Match(p, s)
	}
	return is
}

// split reports whether s consists of a string of a and one of b.
func split(s string, a, b map[string]bool) bool {
	for i := range len(s) + 1 {
		if a[s[:i]] && b[s[i:]] {
			return true
		}
	}
	return false
}

// P6.2, P6.6: what alternatives and sequences of two expressions match, and whether they are empty.
func TestLawsOfTwo(t *testing.T) {
	strings := texts("abc.", 3)
	matches := 0
	for _, p := range expressions() {
		for _, q := range expressions() {
			a, b := matched(t, p, strings), matched(t, q, strings)
			either, both := matched(t, group(p)+"|"+group(q), strings), matched(t, group(p)+group(q), strings)
			for _, s := range strings {
				if either[s] != (a[s] || b[s]) || both[s] != split(s, a, b) {
					t.Errorf("%q, %q: %q", p, q, s)
				}
				if both[s] {
					matches++
				}
			}
			if Empty(group(p)+"|"+group(q)) != (Empty(p) && Empty(q)) || Empty(group(p)+group(q)) != (Empty(p) || Empty(q)) {
				t.Errorf("%q, %q: empty", p, q)
			}
		}
	}
	if matches < 5000 {
		t.Errorf("%d matches", matches)
	}
}

// P6.2, P6.6: what repeated expressions match, and that they are not empty.
func TestLawsOfRepetition(t *testing.T) {
	strings := texts("abc.", 4)
	matches := 0
	for _, p := range append(expressions(), "(a*)*b", "((a|b)+)*", "(a+)+", "((a*)+)?") {
		once, perhaps, many, some := matched(t, p, strings), matched(t, group(p)+"?", strings), matched(t, group(p)+"*", strings), matched(t, group(p)+"+", strings)
		again := matched(t, group(p)+group(p)+"*", strings)
		for _, s := range strings {
			isMany := s == ""
			for i := range s {
				isMany = isMany || once[s[:i+1]] && many[s[i+1:]]
			}
			if perhaps[s] != (s == "" || once[s]) || many[s] != isMany || some[s] != split(s, once, many) || some[s] != again[s] {
				t.Errorf("%q: %q", p, s)
			}
			if many[s] {
				matches++
			}
		}
		if Empty(group(p)+"*") || Empty(group(p)+"?") || Empty(group(p)+"+") != Empty(p) {
			t.Errorf("%q: empty", p)
		}
	}
	if matches < 1000 {
		t.Errorf("%d matches", matches)
	}
}

// best returns the leftmost longest part that matches, by trying all of them.
func best(p, s string) (api.Found, bool) {
	for start := range len(s) + 1 {
		for end := len(s); end >= start; end-- {
			if Match(p, s[start:end]) {
				return api.Found{Start: start, End: end}, true
			}
		}
	}
	return api.Found{}, false
}

// P6.4, P6.5, P6.6: what is found, how it begins, and that empty expressions match nothing.
func TestLawsOfOne(t *testing.T) {
	counts := map[string]int{}
	for _, p := range append(expressions(), "ab.*", "abc", "b\\.", "a\\.*", "\\.a|b", "abb|ba|c", "a(b|c)") {
		prefix, only := Prefix(p)
		for _, s := range texts("abc.", 4) {
			f, is := Find(p, s)
			if want, wantIs := best(p, s); f != want || is != wantIs {
				t.Errorf("%q in %q: %v, %v instead of %v, %v", p, s, f, is, want, wantIs)
			}
			match := Match(p, s)
			if match && !strings.HasPrefix(s, prefix) || only && match != (s == prefix) || match && Empty(p) {
				t.Errorf("%q matches %q: %v", p, s, match)
			}
			if is && f.Start > 0 {
				counts["found"]++
			}
			if match && prefix != "" {
				counts["prefixes"]++
			}
		}
	}
	if counts["found"] < 1000 || counts["prefixes"] < 30 {
		t.Errorf("%v", counts)
	}
}

// countSteps returns the number of steps of a search, and the number of states.
func countSteps(t *testing.T, p, s string, last int) (int, int) {
	t.Helper()
	e, errno := parse(p)
	if errno != api.OK {
		t.Fatalf("%q: error %d", p, errno)
	}
	r := newRun(e, s)
	n := 0
	for i, x := range r.nodes {
		r.nodes[i].step = func(r *run, start int) {
			n += 1 + len(r.now)/len(r.nodes)
			x.step(r, start)
		}
	}
	r.search(last)
	return n, len(r.nodes)
}

// P6.1: the number of steps is at most proportional to the product of the lengths, also for repetitions of repetitions.
func TestSteps(t *testing.T) {
	for _, p := range []string{"", "a", "a*", "(a*)*", "((a*)*)*b", "(a*)*(a*)*(a*)*b", "(a|a)*b", "((a|a)*|(a|a)*)*b", "(a?)+(a?)+(a?)+b", strings.Repeat("a?", 50) + strings.Repeat("a", 50), strings.Repeat("(", 66) + "a" + strings.Repeat(")*", 66), strings.Repeat("(a*", 50) + strings.Repeat(")", 50), strings.Repeat("(", 40) + "a" + strings.Repeat("|a)*", 39) + ")", strings.Repeat("a*", 100), strings.Repeat("|", 200), strings.Repeat("a|", 100), strings.Repeat(".*a", 60)} {
		for _, n := range []int{0, 1, 100, 1000} {
			s := strings.Repeat("a", n)
			for _, last := range []int{0, n} {
				steps, states := countSteps(t, p, s, last)
				if states > len(p)+2 || steps > states*(n+1) {
					t.Errorf("%q, %d bytes: %d states, %d steps", p, n, states, steps)
				}
			}
		}
	}
}

// P6.1: repetitions of repetitions with long strings.
func TestLongStrings(t *testing.T) {
	s := strings.Repeat("a", 20000)
	for _, p := range []string{"(a*)*(a*)*(a*)*", "((a|a)*|(a|a)*)*", "(a?)+(a?)+(a?)+", strings.Repeat("(", 66) + "a" + strings.Repeat(")*", 66), "(a*)*(a|aa)*"} {
		if !Match(p, s) || Match(p+"b", s) || !Match(p+"b", s+"b") || Match(p+"b", s+"bb") || Match(p, s+"\n") {
			t.Errorf("%q", p)
		}
		for text, want := range map[string]api.Found{"c" + s + "b": {Start: 1, End: 20002}, "cb" + s: {Start: 1, End: 2}, s + "c" + s + "b": {Start: 20001, End: 40002}} {
			if f, is := Find(p+"b", text); !is || f != want {
				t.Errorf("%q: %v, %v", p, f, is)
			}
		}
		if f, is := Find(p+"b", s); is || f != (api.Found{}) {
			t.Errorf("%q: %v, %v", p, f, is)
		}
	}
}

package matcher

import (
	"strings"

	"lookout/api"
	"lookout/labels"
)

// nameBytes are those that a name in a text may have.
const nameBytes = "ABCDEFGHIJKLMNOPQRSTUVWXYZabcdefghijklmnopqrstuvwxyz0123456789_"

// operators has those of the kinds 1 to 4.
var operators = [4]string{"=", "!=", "=~", "!~"}

// Format returns the text of matchers.
func Format(l []api.Matcher) string {
	if Check(l) != api.OK {
		return ""
	}
	return text(l)
}

// Parse returns the matchers of a text.
func Parse(s string) ([]api.Matcher, api.Errno) {
	l := read(s)
	// The reader takes more than texts; but only a text is the text of what was read.
	if text(l) != s {
		return nil, api.ErrSyntax
	}
	if e := Check(l); e != api.OK {
		return nil, e
	}
	return l, api.OK
}

// text returns the text of matchers of which only the kinds need to be valid.
func text(l []api.Matcher) string {
	b := []byte("{")
	for i, m := range l {
		if i > 0 {
			b = append(b, ',')
		}
		b = append(b, m.Name...)
		b = append(b, operators[m.Kind-1]...)
		b = append(b, quoted(m.Value)...)
	}
	return string(append(b, '}'))
}

// quoted takes a value with its quotation marks from the text of a label, since layer 5 tells how it is quoted.
func quoted(value string) string {
	s := labels.Format([]api.Label{{Value: value}})
	return s[len("{=") : len(s)-len("}")]
}

// read returns the matchers of a text. If s is not one, these are the matchers before the first place where there is none.
func read(s string) []api.Matcher {
	var l []api.Matcher
	for s != "" {
		// Before each matcher is a brace or a comma.
		m, rest := readMatcher(s[1:])
		if m.Kind == 0 {
			break
		}
		l = append(l, m)
		s = rest
	}
	return l
}

// readMatcher returns the matcher with which s begins, and the rest of s; a matcher without a kind if there is none.
func readMatcher(s string) (api.Matcher, string) {
	rest := strings.TrimLeft(s, nameBytes)
	name := s[:len(s)-len(rest)]
	if name == "" {
		return api.Matcher{}, s
	}
	for i, operator := range operators {
		if behind, is := strings.CutPrefix(rest, operator+`"`); is {
			value, rest := readValue(behind)
			return api.Matcher{Kind: i + 1, Name: name, Value: value}, rest
		}
	}
	return api.Matcher{}, s
}

// readValue returns the value that s has before a quotation mark, and what is behind it.
func readValue(s string) (string, string) {
	var value []byte
	for i := 0; i < len(s); i++ {
		c := s[i]
		if c == '"' {
			return string(value), s[i+1:]
		}
		if c == '\\' && i+1 < len(s) {
			i++
			c = unescaped(s[i])
		}
		value = append(value, c)
	}
	return string(value), ""
}

// unescaped returns the byte for which a byte behind a backslash stands.
func unescaped(c byte) byte {
	if c == 'n' {
		return '\n'
	}
	return c
}

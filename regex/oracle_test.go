package regex

import (
	"cmp"
	"fmt"
	"regexp"
	"strings"
	"unicode/utf8"

	"lookout/api"
)

// member is a byte of a class, or an escape for one, as a pattern of the standard library; noCaret is one that is not a ^ alone.
const (
	member  = `(?:[^\]\\]|\\[nt]|\\[^A-Za-z0-9])`
	noCaret = `(?:[^\]\\^]|\\[nt]|\\[^A-Za-z0-9])`
)

var (
	letterOrDigit = regexp.MustCompile(`\A[A-Za-z0-9]\z`)
	tokenPattern  = regexp.MustCompile(`(?s)\\.|\[(?:\^` + member + `|` + noCaret + `)` + member + `*\]|.`)
	itemPattern   = regexp.MustCompile(`(` + member + `)-(` + member + `)|` + member)
	repeated      = regexp.MustCompile(`[XO][*+?]`)
	closed        = regexp.MustCompile(`\([XOYZ|]*\)`)
	reduced       = regexp.MustCompile(`\A[XOYZ|]*\z`)
)

// latin returns a text with a rune for each byte, since the standard library matches runes.
func latin(s string) string {
	var runes []rune
	for _, b := range []byte(s) {
		runes = append(runes, rune(b))
	}
	return string(runes)
}

// bytesOf returns the string of which latin made a text.
func bytesOf(text string) string {
	var b []byte
	for _, c := range text {
		b = append(b, byte(c))
	}
	return string(b)
}

// letter returns the rune for which a member of a class or a literal token stands.
func letter(text string) rune {
	switch {
	case text == `\n`:
		return '\n'
	case text == `\t`:
		return '\t'
	default:
		c, _ := utf8.DecodeLastRuneInString(text)
		return c
	}
}

// wantClass returns the pattern of a class, and the number of bytes for which it stands, or -1 if a range is in the wrong order.
func wantClass(text string) (string, int) {
	text = text[1 : len(text)-1]
	pattern, inverted := "[", strings.HasPrefix(text, "^")
	if inverted {
		pattern, text = "[^", text[1:]
	}
	has := map[rune]bool{}
	for _, m := range itemPattern.FindAllStringSubmatch(text, -1) {
		low, high := letter(m[0]), letter(m[0])
		if m[1] != "" {
			low, high = letter(m[1]), letter(m[2])
		}
		if low > high {
			return "", -1
		}
		pattern += fmt.Sprintf(`\x{%x}-\x{%x}`, low, high)
		for ; low <= high; low++ {
			has[low] = true
		}
	}
	if inverted {
		return pattern + "]", 256 - len(has)
	}
	return pattern + "]", len(has)
}

// known is what the tests know about an expression.
type known struct {
	valid, empty bool
	pattern      string // for the standard library
	prefix       string
	only         bool
}

// token adds a token to the pattern, and returns what stands for it in the shape: X for an atom, O for one that stands for no byte, E for what is not allowed.
func (k *known) token(text string) string {
	switch c := letter(text); {
	case text == `\` || text == "]" || text == "[":
		return "E"
	case text == `\d`:
		k.pattern += "[0-9]"
	case text == `\w`:
		k.pattern += "[A-Za-z0-9_]"
	case text == ".":
		k.pattern += "(?s:.)"
	case text == "(":
		k.pattern += "(?:"
		return text
	case strings.Contains("|)*+?", text):
		k.pattern += text
		return text
	case text[0] == '[':
		pattern, n := wantClass(text)
		k.pattern += pattern
		return []string{"E", "O", "X"}[1+cmp.Compare(n, 0)]
	case text[0] == '\\' && text != `\n` && text != `\t` && letterOrDigit.MatchString(text[1:]):
		return "E"
	default:
		k.pattern += regexp.QuoteMeta(string(c))
	}
	return "X"
}

// isEmpty reports whether all alternatives of a reduced shape have an atom that matches nothing.
func isEmpty(shape string) bool {
	for _, alternative := range strings.Split(shape, "|") {
		if !strings.ContainsAny(alternative, "OZ") {
			return false
		}
	}
	return true
}

// reduce replaces all atoms with what is behind them, and all parentheses: Y and Z are atoms that must not be repeated, Z and O match nothing.
func reduce(shape string) string {
	for last := ""; last != shape; {
		last = shape
		shape = repeated.ReplaceAllStringFunc(shape, func(s string) string {
			if s == "O+" {
				return "Z"
			}
			return "Y"
		})
		shape = closed.ReplaceAllStringFunc(shape, func(s string) string {
			if isEmpty(s[1 : len(s)-1]) {
				return "O"
			}
			return "X"
		})
	}
	return shape
}

// isLiteral reports whether a token is a byte that stands for itself, or an escape for one.
func isLiteral(token, shape string) bool {
	return shape == "X" && token != "." && token != `\d` && token != `\w` && token[0] != '['
}

// wantPrefix finds the prefix of the tokens of an expression, with the shape of each.
func (k *known) wantPrefix(tokens, shapes []string) {
	depth := 0
	for _, s := range shapes {
		depth += strings.Count(s, "(") - strings.Count(s, ")")
		if depth == 0 && s == "|" {
			return
		}
	}
	shapes = append(shapes, "")
	for i, token := range tokens {
		if !isLiteral(token, shapes[i]) || shapes[i+1] != "" && strings.Contains("*+?", shapes[i+1]) {
			return
		}
		k.prefix += bytesOf(string(letter(token)))
	}
	k.only = true
}

// know reads an expression by means of the standard library.
func know(p string) known {
	var k known
	tokens := tokenPattern.FindAllString(latin(p), -1)
	var shapes []string
	for _, token := range tokens {
		shapes = append(shapes, k.token(token))
	}
	shape := reduce(strings.Join(shapes, ""))
	if len(p) > 200 || !reduced.MatchString(shape) {
		return known{}
	}
	k.valid, k.empty = true, isEmpty(shape)
	k.wantPrefix(tokens, shapes)
	return k
}

func wantCheck(p string, k known) api.Errno {
	switch {
	case len(p) > 200:
		return api.ErrLimit
	case !k.valid:
		return api.ErrSyntax
	default:
		return api.OK
	}
}

// wantMatch returns what Match must return for an expression.
func wantMatch(k known) func(s string) bool {
	if !k.valid {
		return func(string) bool { return false }
	}
	whole := regexp.MustCompile(`\A(?:` + k.pattern + `)\z`)
	return func(s string) bool { return whole.MatchString(latin(s)) }
}

// wantFind returns what Find must return for an expression.
func wantFind(k known) func(s string) (api.Found, bool) {
	if !k.valid {
		return func(string) (api.Found, bool) { return api.Found{}, false }
	}
	part := regexp.MustCompile(k.pattern)
	part.Longest()
	return func(s string) (api.Found, bool) {
		text := latin(s)
		at := part.FindStringIndex(text)
		if at == nil {
			return api.Found{}, false
		}
		return api.Found{Start: utf8.RuneCountInString(text[:at[0]]), End: utf8.RuneCountInString(text[:at[1]])}, true
	}
}

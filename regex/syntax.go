package regex

import (
	"slices"
	"strings"

	"lookout/api"
)

const (
	maxLength       = 200
	repeats         = "*+?"
	digits          = "09"
	lettersOrDigits = "AZaz" + digits
)

// expression has at least one alternative.
type expression []alternative

type alternative []factor

// factor is an atom with what is behind it: one of the bytes of repeats, or 0.
type factor struct {
	// bytes are those for which the atom stands, unless it is an expression in parentheses: then it is inner.
	bytes class
	inner expression
	// literal is whether a byte was written, as itself or by an escape, and not a set of bytes: then it is letter.
	literal bool
	letter  byte
	repeat  byte
}

// class has the bytes for which an atom stands.
type class [256]bool

func (c *class) add(first, last byte) {
	for b := int(first); b <= int(last); b++ {
		c[b] = true
	}
}

// ranges returns the class of the bytes from the first to the second byte of each pair in a string.
func ranges(pairs string) class {
	var c class
	for i := 0; i < len(pairs); i += 2 {
		c.add(pairs[i], pairs[i+1])
	}
	return c
}

func literal(letter byte) factor {
	f := factor{literal: true, letter: letter}
	f.bytes.add(letter, letter)
	return f
}

func (e expression) empty() bool {
	return !slices.ContainsFunc(e, func(a alternative) bool { return !a.empty() })
}

func (a alternative) empty() bool {
	return slices.ContainsFunc(a, factor.empty)
}

func (f factor) empty() bool {
	if f.repeat == '*' || f.repeat == '?' {
		return false
	}
	if f.inner != nil {
		return f.inner.empty()
	}
	return f.bytes == class{}
}

func parse(p string) (expression, api.Errno) {
	if len(p) > maxLength {
		return nil, api.ErrLimit
	}
	r := reader{rest: p}
	e := r.expression()
	if r.failed || r.rest != "" {
		return nil, api.ErrSyntax
	}
	return e, api.OK
}

// reader reads the text of an expression. When it has failed, nothing is left to read, so that all loops end.
type reader struct {
	rest   string
	failed bool
}

func (r *reader) fail() {
	*r = reader{failed: true}
}

// begins reports whether one of some bytes is next.
func (r *reader) begins(bytes string) bool {
	return r.rest != "" && strings.IndexByte(bytes, r.rest[0]) >= 0
}

// next reads a byte.
func (r *reader) next() byte {
	if r.rest == "" {
		r.fail()
		return 0
	}
	c := r.rest[0]
	r.rest = r.rest[1:]
	return c
}

// skip reads a byte if it is next, and reports whether it is.
func (r *reader) skip(c string) bool {
	is := r.begins(c)
	if is {
		r.next()
	}
	return is
}

func (r *reader) expression() expression {
	e := expression{r.alternative()}
	for r.skip("|") {
		e = append(e, r.alternative())
	}
	return e
}

func (r *reader) alternative() alternative {
	var a alternative
	for r.rest != "" && !r.begins("|)") {
		a = append(a, r.factor())
	}
	return a
}

func (r *reader) factor() factor {
	f := r.atom()
	if r.begins(repeats) {
		f.repeat = r.next()
	}
	return f
}

func (r *reader) atom() factor {
	switch c := r.next(); {
	case c == '(':
		return r.parentheses()
	case c == '[':
		return factor{bytes: r.class()}
	case c == '.':
		return factor{bytes: ranges("\x00\xff")}
	case c == '\\':
		return r.escape()
	case strings.IndexByte(special, c) >= 0:
		r.fail()
		return factor{}
	default:
		return literal(c)
	}
}

// parentheses reads what follows behind the opening one.
func (r *reader) parentheses() factor {
	e := r.expression()
	if !r.skip(")") {
		r.fail()
	}
	return factor{inner: e}
}

// escape reads what follows behind a backslash.
func (r *reader) escape() factor {
	switch c := r.next(); {
	case c == 'n':
		return literal('\n')
	case c == 't':
		return literal('\t')
	case c == 'd':
		return factor{bytes: ranges(digits)}
	case c == 'w':
		return factor{bytes: ranges(lettersOrDigits + "__")}
	case ranges(lettersOrDigits)[c]:
		r.fail()
		return factor{}
	default:
		return literal(c)
	}
}

// class reads what follows behind the opening bracket.
func (r *reader) class() class {
	inverted := r.skip("^")
	var c class
	for more := true; more; more = !r.failed && !r.skip("]") {
		c.add(r.item())
	}
	for b := range c {
		c[b] = c[b] != inverted
	}
	return c
}

// item reads an item of a class, and returns the first and the last one of its bytes.
func (r *reader) item() (byte, byte) {
	first := r.member()
	last := first
	if len(r.rest) > 1 && r.rest[0] == '-' && r.rest[1] != ']' {
		r.next()
		last = r.member()
	}
	if last < first {
		r.fail()
	}
	return first, last
}

// member reads a byte of a class, or an escape for one.
func (r *reader) member() byte {
	if r.begins("]") {
		r.fail()
	}
	c := r.next()
	if c != '\\' {
		return c
	}
	f := r.escape()
	if !f.literal {
		r.fail()
	}
	return f.letter
}

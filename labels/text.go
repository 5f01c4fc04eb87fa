package labels

import (
	"strings"

	"lookout/api"
)

// Format returns the text of a label set.
func Format(l []api.Label) string {
	b := []byte("{")
	for i, x := range l {
		if i > 0 {
			b = append(b, ',')
		}
		b = append(b, x.Name...)
		b = append(b, `="`...)
		b = appendEscaped(b, x.Value)
		b = append(b, '"')
	}
	return string(append(b, '}'))
}

// Parse returns the label set of a text.
func Parse(s string) ([]api.Label, api.Errno) {
	next := readerOf(s)
	l, isList := next.list()
	if !isList || next(all) != "" {
		return nil, api.ErrSyntax
	}
	if e := Check(l); e != api.OK {
		return nil, e
	}
	return l, api.OK
}

func appendEscaped(b []byte, value string) []byte {
	for i := range len(value) {
		switch c := value[i]; c {
		case '\n':
			b = append(b, `\n`...)
		case '\\', '"':
			b = append(b, '\\', c)
		default:
			b = append(b, c)
		}
	}
	return b
}

// A size tells the number of bytes at the beginning of a text that belong to something, 0 if it is not there.
type size func(text string) int

// A reader returns the next part of a text: what a size finds at the beginning of the rest.
type reader func(s size) string

func readerOf(text string) reader {
	at := 0
	return func(s size) string {
		start := at
		at += s(text[start:])
		return text[start:at]
	}
}

// skip reports whether a sign is next, and reads it.
func (next reader) skip(sign string) bool {
	return next(func(text string) int {
		if strings.HasPrefix(text, sign) {
			return len(sign)
		}
		return 0
	}) != ""
}

// list reads labels in braces, and reports whether they are there. So do label and value.
func (next reader) list() ([]api.Label, bool) {
	if !next.skip("{") {
		return nil, false
	}
	if next.skip("}") {
		return nil, true
	}
	var l []api.Label
	for {
		x, isLabel := next.label()
		if !isLabel {
			return nil, false
		}
		l = append(l, x)
		if !next.skip(",") {
			return l, next.skip("}")
		}
	}
}

func (next reader) label() (api.Label, bool) {
	name := next(wordSize)
	if name == "" || !next.skip(`="`) {
		return api.Label{}, false
	}
	value, isClosed := next.value()
	return api.Label{Name: name, Value: value}, isClosed
}

// value reads what is between quotation marks, and the second one.
func (next reader) value() (string, bool) {
	b := []byte(next(plainSize))
	for next.skip(`\`) {
		switch {
		case next.skip(`n`):
			b = append(b, '\n')
		case next.skip(`\`):
			b = append(b, '\\')
		case next.skip(`"`):
			b = append(b, '"')
		default:
			return "", false
		}
		b = append(b, next(plainSize)...)
	}
	return string(b), next.skip(`"`)
}

// plainSize returns the number of bytes at the beginning of a text that stand for themselves in a value.
func plainSize(text string) int {
	return leading(text, func(c byte) bool { return c != '\\' && c != '"' && c != '\n' })
}

func all(text string) int {
	return len(text)
}

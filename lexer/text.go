package lexer

import (
	"slices"
	"strings"

	"overseer/api"
	"overseer/layout"
)

// Join returns a text with some tokens, with a blank between each two of them.
func Join(l []Token) (string, api.Errno) {
	l = withoutEnds(l)
	var b strings.Builder
	for i, t := range l {
		if i > 0 {
			b.WriteByte(' ')
		}
		b.WriteString(t.Text)
		if b.Len() > api.MaxText { // no text that is as long can be read
			return "", api.ErrForm
		}
	}
	again, _, _, e := Scan(b.String())
	if e != api.OK || !slices.EqualFunc(withoutEnds(again), l, isSame) {
		return "", api.ErrForm
	}
	return b.String(), api.OK
}

// Pretty returns a text with some tokens in which lines begin after braces and semicolons.
func Pretty(l []Token) (string, api.Errno) {
	if _, e := Join(l); e != api.OK {
		return "", e
	}
	var texts []string
	for _, t := range withoutEnds(l) {
		texts = append(texts, t.Text)
	}
	return layout.Lines(texts), api.OK
}

func withoutEnds(l []Token) []Token {
	return slices.DeleteFunc(slices.Clone(l), func(t Token) bool { return t.Kind == End })
}

// isSame reports whether two tokens are equal, apart from their places.
func isSame(a, b Token) bool {
	return a.Kind == b.Kind && a.Text == b.Text && a.Value == b.Value
}

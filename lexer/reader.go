package lexer

import "overseer/api"

// Reader takes tokens one after another; after the first error it takes none.
type Reader struct {
	tokens       []Token // up to the End, which is never taken
	taken        int
	line, column int // the place of the error, if there is one
	e            api.Errno
}

// New returns a reader of a text.
func New(s string) *Reader {
	l, line, column, e := Scan(s)
	return &Reader{tokens: l, line: line, column: column, e: e}
}

// Peek returns the next token.
func (r *Reader) Peek() Token {
	switch {
	case r == nil:
		return Token{}
	case r.e != api.OK:
		return Token{Kind: End, Line: r.line, Column: r.column}
	case r.taken == len(r.tokens): // New did not make this reader: it reads an empty text
		return Token{Kind: End, Line: 1, Column: 1}
	}
	return r.tokens[r.taken]
}

// Next returns the next token, and takes it.
func (r *Reader) Next() Token {
	t := r.Peek()
	if r != nil && t.Kind != End {
		r.taken++
	}
	return t
}

// Is reports whether the next token is a word or a symbol with a text.
func (r *Reader) Is(text string) bool {
	t := r.Peek()
	return (t.Kind == Word || t.Kind == Symbol) && t.Text == text
}

// Take reports what Is reports, and takes the token then.
func (r *Reader) Take(text string) bool {
	is := r.Is(text)
	if is {
		r.Next()
	}
	return is
}

// Expect takes a word or a symbol with a text, or fails.
func (r *Reader) Expect(text string) {
	if !r.Take(text) {
		r.Fail(api.ErrSyntax)
	}
}

// Name takes a word.
func (r *Reader) Name() string {
	if r.Peek().Kind != Word {
		r.Fail(api.ErrSyntax)
		return ""
	}
	return r.Next().Text
}

// Int takes an integer with a sign.
func (r *Reader) Int(low, high int) int {
	sign := 1
	if r.Take("-") {
		sign = -1
	}
	t := r.Peek()
	value := sign * t.Value
	switch {
	case t.Kind != Number:
		r.Fail(api.ErrSyntax)
		return 0
	case value < low || value > high:
		r.Fail(api.ErrRange)
		return 0
	}
	r.Next()
	return value
}

// List takes items with commas between them, as long as there are commas. An item that panics, or is nil, ends the list.
func (r *Reader) List(item func()) {
	if r == nil {
		return
	}
	defer func() { _ = recover() }()
	item()
	for r.e == api.OK && r.Take(",") {
		item()
	}
}

// Finish fails unless the text has ended.
func (r *Reader) Finish() {
	if r.Peek().Kind != End {
		r.Fail(api.ErrSyntax)
	}
}

// Fail fails at the next token, unless there was an error before.
func (r *Reader) Fail(e api.Errno) {
	if r == nil || r.e != api.OK || e == api.OK {
		return
	}
	t := r.Peek()
	r.line, r.column, r.e = t.Line, t.Column, e
}

// Error returns the first error and its place.
func (r *Reader) Error() (line, column int, e api.Errno) {
	if r == nil {
		return 0, 0, api.ErrArgument
	}
	return r.line, r.column, r.e
}

package lexer_test

import (
	"math"
	"math/rand"
	"reflect"
	"slices"
	"strings"
	"testing"

	"overseer/api"
	"overseer/lexer"
)

// state is the next token and the error of a reader.
type state struct {
	next         token
	line, column int
	e            api.Errno
}

func stateOf(r *lexer.Reader) state {
	line, column, e := r.Error()
	return state{r.Peek(), line, column, e}
}

// good is a state without an error, and failed one with an error.
func good(kind int, text string, value, line, column int) state {
	return state{next: token{Kind: kind, Text: text, Value: value, Line: line, Column: column}}
}

func failed(line, column int, e api.Errno) state {
	return state{token{Kind: lexer.End, Line: line, Column: column}, line, column, e}
}

func expect(t *testing.T, what string, r *lexer.Reader, want state) {
	t.Helper()
	if got := stateOf(r); got != want {
		t.Errorf("%s: %v, not %v", what, got, want)
	}
}

// P16.3
func TestReader(t *testing.T) {
	s := "a 12\n-> // c\n b"
	r := lexer.New(s)
	for _, want := range tokensOf(t, s) {
		if got := r.Peek(); got != want {
			t.Errorf("Peek = %v, not %v", got, want)
		}
		if got := r.Peek(); got != want {
			t.Errorf("Peek again = %v, not %v", got, want)
		}
		if got := r.Next(); got != want {
			t.Errorf("Next = %v, not %v", got, want)
		}
	}
	for range 3 {
		if got := r.Next(); got != (token{Kind: lexer.End, Line: 3, Column: 3}) {
			t.Errorf("Next at the end = %v", got)
		}
	}
	expect(t, "at the end", r, good(lexer.End, "", 0, 3, 3))
	r.Fail(api.ErrKind)
	expect(t, "Fail at the end", r, failed(3, 3, api.ErrKind))
	expect(t, "nothing", lexer.New(""), good(lexer.End, "", 0, 1, 1))
}

// P16.3: errors of Scan, and of Fail. The first one stays.
func TestFail(t *testing.T) {
	for s, want := range map[string]state{
		"a\n 1x":                   failed(2, 2, api.ErrForm),
		"a.b":                      failed(1, 2, api.ErrSyntax),
		"a 70000":                  failed(1, 3, api.ErrRange),
		strings.Repeat("a", 33):    failed(1, 1, api.ErrLong),
		strings.Repeat(" ", 65537): failed(1, 1, api.ErrLong),
	} {
		r := lexer.New(s)
		expect(t, "New", r, want)
		r.Fail(api.ErrKind)
		r.Fail(api.OK)
		if got := r.Next(); got != want.next {
			t.Errorf("Next = %v, not %v", got, want.next)
		}
		r.Finish()
		expect(t, "after an error", r, want)
	}
	r := lexer.New("a b c")
	r.Next()
	r.Fail(api.OK)
	expect(t, "Fail(OK)", r, good(lexer.Word, "b", 0, 1, 3))
	r.Fail(api.Errno(-77))
	expect(t, "Fail", r, failed(1, 3, api.Errno(-77)))
	r.Fail(api.ErrKind)
	r.Next()
	r.Fail(api.OK)
	expect(t, "Fail again", r, failed(1, 3, api.Errno(-77)))
}

// P16.4
func TestTake(t *testing.T) {
	type method struct {
		name string
		call func(r *lexer.Reader, text string) bool
	}
	is := method{"Is", (*lexer.Reader).Is}
	take := method{"Take", (*lexer.Reader).Take}
	expecting := method{"Expect", func(r *lexer.Reader, text string) bool {
		r.Expect(text)
		_, _, e := r.Error()
		return e == api.OK
	}}
	for _, c := range []struct {
		s, text string
		want    bool
	}{
		{"a b", "a", true}, {"a b", "b", false}, {"a b", "", false}, {"ab", "a", false}, {"a b", "a b", false},
		{"-> b", "->", true}, {"-> b", "-", false}, {"- > b", "->", false}, {"; b", ";", true},
		{"1 b", "1", false}, {"1 b", "", false}, {"", "", false}, {"", "a", false}, {"A", "a", false},
	} {
		first := lexer.New(c.s).Peek()
		second := stateOf(func() *lexer.Reader { r := lexer.New(c.s); r.Next(); return r }())
		for _, m := range []method{is, take, expecting} {
			want := good(first.Kind, first.Text, first.Value, first.Line, first.Column)
			switch {
			case m.name != "Is" && c.want:
				want = second
			case m.name == "Expect":
				want = failed(1, 1, api.ErrSyntax)
			}
			r := lexer.New(c.s)
			if got := m.call(r, c.text); got != c.want {
				t.Errorf("%s(%q) of %q = %v", m.name, c.text, c.s, got)
			}
			expect(t, m.name, r, want)
		}
	}
	r := lexer.New("a a")
	r.Fail(api.ErrKind)
	if r.Is("a") || r.Take("a") || r.Is("") {
		t.Error("a token after an error")
	}
	r.Expect("a")
	expect(t, "Expect after an error", r, failed(1, 1, api.ErrKind))
}

// P16.5
func TestName(t *testing.T) {
	r := lexer.New("a b ; 1")
	if a, b := r.Name(), r.Name(); a != "a" || b != "b" {
		t.Errorf("Name = %q, %q", a, b)
	}
	expect(t, "Name", r, good(lexer.Symbol, ";", 0, 1, 5))
	if s := r.Name(); s != "" {
		t.Errorf("Name = %q", s)
	}
	expect(t, "Name of a symbol", r, failed(1, 5, api.ErrSyntax))
	for _, s := range []string{"1", "", "- a", "// a"} {
		r := lexer.New("\n" + s)
		at := r.Peek()
		if got := r.Name(); got != "" {
			t.Errorf("Name of %q = %q", s, got)
		}
		expect(t, s, r, failed(at.Line, at.Column, api.ErrSyntax))
	}
	r = lexer.New("a")
	r.Fail(api.ErrKind)
	if s := r.Name(); s != "" {
		t.Errorf("Name after an error = %q", s)
	}
	expect(t, "Name after an error", r, failed(1, 1, api.ErrKind))
}

// P16.5
func TestInt(t *testing.T) {
	for _, c := range []struct {
		s         string
		low, high int
		value     int
		want      state
	}{
		{"7 a", 0, 9, 7, good(lexer.Word, "a", 0, 1, 3)},
		{"- 7 a", -7, 9, -7, good(lexer.Word, "a", 0, 1, 5)},
		{"-0 a", 0, 0, 0, good(lexer.Word, "a", 0, 1, 4)},
		{"0", 0, 0, 0, good(lexer.End, "", 0, 1, 2)},
		{"9", 9, 9, 9, good(lexer.End, "", 0, 1, 2)},
		{"65536", math.MinInt, math.MaxInt, 65536, good(lexer.End, "", 0, 1, 6)},
		{"-65536", math.MinInt, math.MaxInt, -65536, good(lexer.End, "", 0, 1, 7)},
		{"10", 0, 9, 0, failed(1, 1, api.ErrRange)},
		{"-8", -7, 9, 0, failed(1, 2, api.ErrRange)},
		{"-1", 0, 9, 0, failed(1, 2, api.ErrRange)},
		{"5", 6, 4, 0, failed(1, 1, api.ErrRange)},
		{"5", 6, 9, 0, failed(1, 1, api.ErrRange)},
		{"0", 1, 9, 0, failed(1, 1, api.ErrRange)},
		{"a", 0, 9, 0, failed(1, 1, api.ErrSyntax)},
		{"- a", 0, 9, 0, failed(1, 3, api.ErrSyntax)},
		{"- - 1", -9, 9, 0, failed(1, 3, api.ErrSyntax)},
		{"+1", 0, 9, 0, failed(1, 1, api.ErrSyntax)},
		{"", -9, 9, 0, failed(1, 1, api.ErrSyntax)},
		{" -", -9, 9, 0, failed(1, 3, api.ErrSyntax)},
		{"->1", -9, 9, 0, failed(1, 1, api.ErrSyntax)},
		{";", 1, 2, 0, failed(1, 1, api.ErrSyntax)},
		{"1x", 0, 9, 0, failed(1, 1, api.ErrForm)},
	} {
		r := lexer.New(c.s)
		if got := r.Int(c.low, c.high); got != c.value {
			t.Errorf("Int(%d, %d) of %q = %d", c.low, c.high, c.s, got)
		}
		expect(t, c.s, r, c.want)
	}
}

// P16.6
func TestList(t *testing.T) {
	for _, c := range []struct {
		s    string
		read []string
		want state
	}{
		{"a ;", []string{"a"}, good(lexer.Symbol, ";", 0, 1, 3)},
		{"a, b, c d", []string{"a", "b", "c"}, good(lexer.Word, "d", 0, 1, 9)},
		{"a", []string{"a"}, good(lexer.End, "", 0, 1, 2)},
		{"a, ;", []string{"a", ""}, failed(1, 4, api.ErrSyntax)},
		{"a, b, 1, c", []string{"a", "b", ""}, failed(1, 7, api.ErrSyntax)},
		{", a", []string{""}, failed(1, 1, api.ErrSyntax)},
		{"", []string{""}, failed(1, 1, api.ErrSyntax)},
		{"a, 1x", []string{""}, failed(1, 4, api.ErrForm)},
	} {
		r := lexer.New(c.s)
		var read []string
		r.List(func() { read = append(read, r.Name()) })
		if !slices.Equal(read, c.read) {
			t.Errorf("%q: %q, not %q", c.s, read, c.read)
		}
		expect(t, c.s, r, c.want)
	}
	r, calls := lexer.New(", , , a"), 0
	r.List(func() { calls++ })
	if calls != 4 || r.Name() != "a" {
		t.Errorf("%d calls", calls)
	}
	r, calls = lexer.New(", , , a"), 0
	r.List(func() {
		if calls++; calls == 2 {
			r.Fail(api.ErrKind)
		}
	})
	if calls != 2 {
		t.Errorf("%d calls", calls)
	}
	expect(t, "Fail in a list", r, failed(1, 3, api.ErrKind))
}

// P16.6
func TestFinish(t *testing.T) {
	r := lexer.New("a // b")
	r.Finish()
	expect(t, "Finish", r, failed(1, 1, api.ErrSyntax))
	r = lexer.New("a // b")
	r.Next()
	r.Finish()
	expect(t, "Finish at the end", r, good(lexer.End, "", 0, 1, 7))
	r = lexer.New("\n;")
	r.Finish()
	expect(t, "Finish", r, failed(2, 1, api.ErrSyntax))
	r.Finish()
	r.Fail(api.ErrKind)
	expect(t, "Finish again", r, failed(2, 1, api.ErrSyntax))
	if line, column, e := lexer.New("a").Error(); line != 0 || column != 0 || e != api.OK {
		t.Errorf("Error = %d, %d, %d", line, column, e)
	}
}

// P1: nil readers, and ones that New did not make.
func TestNilReader(t *testing.T) {
	var r *lexer.Reader
	r.Fail(api.ErrKind)
	r.Expect("a")
	r.Finish()
	r.List(func() { t.Error("an item of a nil reader") })
	r.List(nil)
	if r.Peek() != (token{}) || r.Next() != (token{}) || r.Is("") || r.Take("") || r.Is("a") || r.Name() != "" || r.Int(-1, 1) != 0 || r.Int(5, 9) != 0 {
		t.Error("a nil reader")
	}
	if line, column, e := r.Error(); line != 0 || column != 0 || e != api.ErrArgument {
		t.Errorf("Error = %d, %d, %d", line, column, e)
	}
	r = &lexer.Reader{}
	expect(t, "an empty reader", r, good(lexer.End, "", 0, 1, 1))
	r.Next()
	r.Finish()
	expect(t, "an empty reader", r, good(lexer.End, "", 0, 1, 1))
	r.List(func() { r.Name() })
	expect(t, "an empty reader", r, failed(1, 1, api.ErrSyntax))
}

// P1: items that panic, or that are nil.
func TestItemsThatPanic(t *testing.T) {
	r := lexer.New("a, b, c")
	r.List(nil)
	expect(t, "a nil item", r, good(lexer.Word, "a", 0, 1, 1))
	r.List(func() {
		if r.Name() == "b" {
			panic("an item")
		}
	})
	expect(t, "an item that panics", r, good(lexer.Symbol, ",", 0, 1, 5))
}

// P16.3 to P16.6: whatever is called, the place of the next token does not decrease, and an error stays.
func TestAnyCalls(t *testing.T) {
	random := rand.New(rand.NewSource(4))
	for range 3000 {
		s := drawText(random, append(rightPieces(), ",", ",", ",", "-", "-", "5", "6", "a"), []string{" ", "\n"}, 20)
		l := tokensOf(t, s)
		r := lexer.New(s)
		for range 12 {
			before := stateOf(r)
			switch text := before.next.Text; random.Intn(8) {
			case 0:
				r.Next()
			case 1:
				if r.Take(text) != r.Is(text) && stateOf(r).next == before.next {
					t.Fatal("Take and Is")
				}
			case 2:
				r.Expect(text)
			case 3:
				r.Name()
			case 4:
				r.Int(-5, 5)
			case 5:
				r.List(func() { r.Next() })
			case 6:
				r.Finish()
			case 7:
				if random.Intn(9) == 0 {
					r.Fail(api.ErrKind)
				}
			}
			after := stateOf(r)
			if before.e != api.OK && after != before {
				t.Fatalf("%q: %v, then %v", s, before, after)
			}
			if after.e == api.OK && !slices.Contains(l, after.next) {
				t.Fatalf("%q: %v is no token of it", s, after.next)
			}
			if after.next.Line < before.next.Line || after.next.Line == before.next.Line && after.next.Column < before.next.Column {
				t.Fatalf("%q: %v, then %v", s, before, after)
			}
			if !reflect.DeepEqual(after, stateOf(r)) {
				t.Fatal("Peek changes something")
			}
		}
	}
}

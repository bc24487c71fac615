package parser_test

import (
	"fmt"
	"math/rand"
	"reflect"
	"slices"
	"strconv"
	"strings"
	"testing"

	"overseer/api"
	"overseer/expression"
	"overseer/lexer"
	"overseer/parser"
)

// P17.3: the first example, and a model with its items and flags in another order.
func TestParse(t *testing.T) {
	want := model{
		Name:       "m",
		Events:     []api.Event{{Name: "a", Controllable: true}},
		Templates:  []api.Template{{Name: "t", Events: []string{"x"}, Locations: []string{"p"}, Machine: api.Extended{Alphabet: []int{0}, Locations: 1, Marked: []int{0}, Moves: []api.Move{{Guard: expression.True()}}}}},
		Components: []api.Instance{{Name: "c", Template: "t", Events: []string{"a"}}},
	}
	if got := mustParse(t, "model m; event a controllable; template t(x) { location p marked; edge p x p; } component c = t(a);"); !parser.Equal(got, want) {
		t.Errorf("Parse = %v, not %v", got, want)
	}
	if got := mustParse(t, textOfWhole); !parser.Equal(got, whole()) {
		t.Errorf("Parse = %v", got)
	}
	n := vari(0)
	want = model{
		Name:         "model",
		Events:       []api.Event{{Name: "event", Observable: true, Forcible: true}, {Name: "b", Fault: 1}},
		Templates:    []api.Template{{Name: "template", Events: []string{"e", "f"}, Locations: []string{"initial", "p", "q"}, Machine: api.Extended{Alphabet: []int{0, 1}, Locations: 3, Initial: 2, Marked: []int{0, 2}, Variables: []api.Variable{{Name: "n", High: 3}, {Name: "edge", Low: -1}}, Moves: []api.Move{{From: 1, Event: 1, To: 0, Guard: op(api.OpLe, num(2), n), Updates: []api.Update{{Variable: 0, Value: num(-3)}, {Variable: 1, Value: n}}}, {From: 2, To: 2, Guard: expression.True()}}}}, {Name: "t"}},
		Components:   []api.Instance{{Name: "c", Template: "later", Events: []string{"b"}}, {Name: "d", Template: "template"}},
		Requirements: []api.Instance{{Name: "r", Template: "t", Events: []string{"event", "b"}}},
		Exclusions:   []api.NamedExclusion{{Name: "c", Locals: []api.NamedLocal{{Component: "c", Location: "p"}}}, {Name: "x", Locals: []api.NamedLocal{{Component: "exclude", Location: "limit"}, {Component: "x", Location: "y"}}}},
		Constraints:  []api.NamedConstraint{{Name: "c", Terms: []api.NamedTerm{{Component: "d", Factor: 1}}, Bound: 3}, {Name: "l", Terms: []api.NamedTerm{{Component: "c", Factor: -1}, {Component: "d", Factor: 2}}}},
	}
	got := mustParse(t, `model model;
limit c: 1*d <= 3; exclude c: c p; requirement r = t(event, b); component c = later(b);
event event observable forcible; template template(e, f) {
	var n: 0..3 = 0; location initial marked; location p; edge p f initial when n >= 2 && true || false do n := 0; location q initial marked; var edge: -1..0 = 0; edge q e q when (((true)));
}
event b fault 1; exclude x: exclude limit, x y; limit l: -1*c + 2*d <= 0; component d = template(); template t() { }`)
	want.Templates[0].Machine.Moves[0].Guard = op(api.OpOr, op(api.OpAnd, want.Templates[0].Machine.Moves[0].Guard, expression.True()), expression.False())
	want.Templates[0].Machine.Moves[0].Updates = []api.Update{{Variable: 0, Value: num(0)}}
	if !parser.Equal(got, want) {
		t.Errorf("Parse = %v, not %v", got, want)
	}
}

// wrongTexts are texts in which a mark stands before the token at which there is an error. The mark at the end stands for errors of Check.
func wrongTexts() map[api.Errno][]string {
	const m = "model m; "
	const t = m + "event a; event b; template t(x, y) { location p; location q; var n : 0 .. 3 = 1; var k : 0 .. 1 = 0; "
	return map[api.Errno][]string{
		api.ErrSyntax: {
			"@", "// model m;\n@", "@event a;", "@;", "model @;", "model @1;", "model m@", "model m @event a;", m + "@model n;", m + "@;", m + "@1;", m + "@events a;", m + "@a;", m + "@location p;", m + "@}", m + "event a; @controllable;",
			m + "event @;", m + "event @1;", m + "event a @b;", m + "event a@", m + "event a @, b;", m + "event a observable @controllable;", m + "event a forcible @observable;", m + "event a controllable @controllable;", m + "event a fault @;", m + "event a fault @x;", m + "event a fault - @x;", m + "event a fault 1 @forcible;", m + "event a fault 1 @2;",
			m + "template @(x) { }", m + "template t @{ }", m + "template t(@, x) { }", m + "template t(x @y) { }", m + "template t(x, @) { }", m + "template t(@1) { }", m + "template t(x@", m + "template t() @;", m + "template t() @}", m + "template t() {@", m + "template t() { } @}", m + "template t() { } @;",
			t + "@event c; }", t + "@template u() { } }", t + "@{ }", t + "@; }", t + "@p; }", t + "@when; }",
			t + "location @; }", t + "location @1; }", t + "location r marked @initial; }", t + "location r initial @initial; }", t + "location r @, s; }", t + "location r @}", t + "location r marked @marked; }",
			t + "var @: 0 .. 1 = 0; }", t + "var @1 : 0 .. 1 = 0; }", t + "var l @= 0 .. 1 = 0; }", t + "var l @:= 0 .. 1 = 0; }", t + "var l : @a .. 1 = 0; }", t + "var l : - @- 1 .. 1 = 0; }", t + "var l : 0 @1 = 0; }", t + "var l : 0 .. @= 0; }", t + "var l : 0 .. 1 @; }", t + "var l : 0 .. 1 @== 0; }", t + "var l : 0 .. 1 = @; }", t + "var l : 0 .. 1 = @(0); }", t + "var l : 0 .. 1 = 0 @}", t + "var l : 0 .. 1 = @+ 0; }",
			t + "edge @; }", t + "edge p @; }", t + "edge p x @; }", t + "edge @1 x p; }", t + "edge p @-> p; }", t + "edge p x p @q; }", t + "edge p x p @}", t + "edge p x p @do2 n := 1; }", t + "edge p x p @if true; }",
			t + "edge p x p when @; }", t + "edge p x p when @) ; }", t + "edge p x p when n == 1 @when n == 1; }", t + "edge p x p when n == 1 @n; }", t + "edge p x p when n @= 1; }", t + "edge p x p when (n == 1 @; }", t + "edge p x p do @; }", t + "edge p x p do n @= 1; }", t + "edge p x p do n @== 1; }", t + "edge p x p do n := @; }", t + "edge p x p do n := 1, @; }", t + "edge p x p do n := 1 @when true; }", t + "edge p x p do @1 := n; }", t + "edge p x p do n := 1 @do k := 1; }", t + "edge p x p do n := 1 @n := 2; }", t + "edge p x p when true do n := 1@",
			m + "component @= t();", m + "component c @t();", m + "component c @== t();", m + "component c = @();", m + "component c = t@;", m + "component c = t(@1);", m + "component c = t(a, @);", m + "component c = t(a @b);", m + "component c = t()@", m + "requirement r = t() @component c = t();", m + "component c @: t();",
			m + "exclude @: a b;", m + "exclude x @a b;", m + "exclude x : @;", m + "exclude x : a @;", m + "exclude x : a @, b;", m + "exclude x : a b @c d;", m + "exclude x : a b, @;", m + "exclude x : a b@", m + "exclude x @= a b;", m + "exclude x : @1 b;", m + "exclude x : a @1;",
			m + "limit @: 1 * a <= 1;", m + "limit x : @a <= 1;", m + "limit x : 1 @a <= 1;", m + "limit x : 1 * @1 <= 1;", m + "limit x : 1 * a @< 1;", m + "limit x : 1 * a @>= 1;", m + "limit x : 1 * a + @<= 1;", m + "limit x : 1 * a @- 1 * b <= 1;", m + "limit x : 1 * a <= @b;", m + "limit x : 1 * a <= 1 @+ 1;", m + "limit x : @<= 1;", m + "limit x : 1 * a <= 1@", m + "limit x : @(1) * a <= 1;", m + "limit x : - @a * 1 <= 1;",
			m + "event a@.b;", m + "@/ comment", m + "event a; @& event",
		},
		api.ErrRange: {
			m + "event a fault @0;", m + "event a fault @5;", m + "event a fault - @1;", m + "event a fault - @0;", m + "event a fault @65537;", m + "limit x : @65537 * a <= 1;",
			t + "} event c fault 1; template u() { var l : 0 .. 1 = 2; } @", t + "var l : 1 .. 3 = 0; }@",
		},
		api.ErrDuplicate: {
			m + "event a; event @a;", m + "event a; event @a b", m + "template t() { } template @t(x, x) { }", m + "template t(x, @x) { }", m + "template t(x, y, @x", t + "location @p; }", t + "location @q initial; }", t + "location r initial; location s @initial; }", t + "location r initial; location @r initial; }", t + "location r initial marked; location s @initial marked; }", t + "var @n : 0 .. 1 = 0; }",
			m + "component c = t(); component @c = u();", m + "component c = t(); requirement @c = u();", m + "requirement c = t(); component @c = u();", m + "requirement c = t(); requirement @c = u();", m + "exclude x : a b; exclude @x : c d;", m + "limit x : 1 * a <= 1; limit @x : 1 * a <= 1;",
		},
		api.ErrName: {t + "var @true : 0 .. 1 = 0; }", t + "var @false; }"},
		api.ErrUnknown: {
			t + "edge @r x p; }", t + "edge @x x p; }", t + "edge @n x p; }", t + "edge p @p p; }", t + "edge p @a p; }", t + "edge p x @r; }", t + "edge p x @when; }", t + "edge @p2 1 1; }",
			t + "edge p x p when @l == 1; }", t + "edge p x p when n == @p; }", t + "edge p x p when @do n := 1; }", t + "edge p x p when n == 1 && (k == 0 || @x == 2); }", t + "edge p x p do @l := 1; }", t + "edge p x p do @p := 1; }", t + "edge p x p do @true := 1; }", t + "edge p x p do n := 1, @l", t + "edge p x p do n := @when; }", t + "edge p x p do n := k ? @a : b; }",
			m + "template t(x) { edge @p x p; location p; }", m + "template t(x) { location p; edge p x p when @n == 0; var n : 0 .. 1 = 0; }", m + "template t(x) { location p; var n : 0 .. 1 = 0; } template u(y) { location q; edge @p y q; }", m + "template t(x) { location p; var n : 0 .. 1 = 0; } template u(y) { location q; edge q @x q; }", m + "template t(x) { location p; var n : 0 .. 1 = 0; } template u(y) { location q; edge q y q when @n == 1; }",
		},
		api.ErrForm:     {m + "event @1x;", m + "limit x : @00 * a <= 1;", "@0model m;"},
		api.ErrConflict: {m + "event a controllable fault 1;@", m + "event a observable fault 2; // c\n  @"},
		api.ErrOrder:    {t + "var l : 3 .. 0 = 1; }@", t + "edge p x p do k := 1, n := 1; }\n\n@", t + "edge p x p do n := 1, n := 1; } @"},
		api.ErrType:     {t + "edge p x p when n; }@", t + "edge p x p when ! n; }@", t + "edge p x p do n := true; } // c @", t + "edge p x p when n == (k == 1); }@", t + "edge p x p when true ? n : k == 1; }@"},
		api.ErrLimit:    {t + "edge p x p when - - - - - - - n == 0; }@"},
	}
}

// P17.3: the errors, and their places.
func TestErrorsOfParse(t *testing.T) {
	for want, l := range wrongTexts() {
		for _, s := range l {
			text, line, column := marked(s)
			m, gotLine, gotColumn, e := parser.Parse(text)
			if !parser.Equal(m, model{}) || gotLine != line || gotColumn != column || e != want {
				t.Errorf("Parse(%q) = %d, %d, %d, not %d", s, gotLine, gotColumn, e, want)
			}
		}
	}
	for _, s := range []string{"\n" + strings.Repeat(" ", 65536), strings.Repeat("x", 65537)} {
		if m, line, column, e := parser.Parse(s); !reflect.DeepEqual(m, model{}) || line != 1 || column != 1 || e != api.ErrLong {
			t.Errorf("Parse of a long text: %d, %d, %d", line, column, e)
		}
	}
}

// P17.3: how many items of a kind there can be.
func TestLimitsOfParse(t *testing.T) {
	for _, c := range []struct {
		item  string
		limit int
	}{
		{"@template NAME() { }\n", 16}, {"@component NAME = t();\n", 32}, {"@requirement NAME = t();\n", 32}, {"@exclude NAME : a b;\n", 32}, {"@limit NAME : 1 * a <= 1;\n", 32},
	} {
		s := "model m;\n"
		for i := range c.limit {
			s += strings.ReplaceAll(strings.ReplaceAll(c.item, "@", ""), "NAME", "x"+strconv.Itoa(i))
		}
		mustParse(t, s+"event a;")
		for _, name := range []string{"y", "x0", "1"} { // the limit comes before what else is wrong
			text, line, column := marked(s + "event a; " + strings.ReplaceAll(c.item, "NAME", name))
			if _, l, k, e := parser.Parse(text); l != line || k != column || e != api.ErrLimit {
				t.Errorf("%s: %d, %d, %d", c.item, l, k, e)
			}
		}
		if _, _, _, e := parser.Parse(s + "event a"); e != api.ErrSyntax {
			t.Errorf("%s: %d", c.item, e)
		}
	}
	// The others have the limits of Check, at the end.
	events, variables := "model m;", "model m; template t() {"
	for i := range 33 {
		events += fmt.Sprintf("event a%d;", i)
	}
	for i := range 17 {
		variables += fmt.Sprintf("var a%d : 0 .. 1 = 0;", i)
	}
	for _, s := range []string{events, variables + "}"} {
		if _, line, column, e := parser.Parse(s); line != 1 || column != len(s)+1 || e != api.ErrLimit {
			t.Errorf("Parse = %d, %d, %d", line, column, e)
		}
	}
	mustParse(t, strings.Replace(events, "event a7;", "", 1))
	mustParse(t, strings.Replace(variables, "var a7 : 0 .. 1 = 0;", "", 1)+"}")
}

// P17.3: INT up to the greatest magnitude.
func TestIntegers(t *testing.T) {
	m := mustParse(t, "model m; template t() { var n : -65536 .. 65536 = -0; } limit x : -65536 * a + 65536 * b <= -65536;")
	if v := m.Templates[0].Machine.Variables[0]; v != (api.Variable{Name: "n", Low: -65536, High: 65536}) {
		t.Errorf("%v", v)
	}
	if c := m.Constraints[0]; c.Bound != -65536 || c.Terms[0].Factor != -65536 || c.Terms[1].Factor != 65536 {
		t.Errorf("%v", c)
	}
}

// P17.3, P17.4: expressions as they are read.
func TestParseExpr(t *testing.T) {
	n, k := vari(0), vari(1)
	lt := func(a, b expr) expr { return op(api.OpLt, a, b) }
	for s, want := range map[string]expr{
		"n + 1 < 3 && !(n == 0)": op(api.OpAnd, lt(op(api.OpAdd, n, num(1)), num(3)), op(api.OpNot, op(api.OpEq, n, num(0)))),
		"2 - 3 - 4":              op(api.OpSub, op(api.OpSub, num(2), num(3)), num(4)),
		"2 - (3 - 4)":            op(api.OpSub, num(2), op(api.OpSub, num(3), num(4))),
		"2-3+4":                  op(api.OpAdd, op(api.OpSub, num(2), num(3)), num(4)),
		"n*k*2":                  op(api.OpMul, op(api.OpMul, n, k), num(2)),
		"n+k*2-1":                op(api.OpSub, op(api.OpAdd, n, op(api.OpMul, k, num(2))), num(1)),
		"n > k":                  lt(k, n),
		"n >= k":                 op(api.OpLe, k, n),
		"n < k":                  lt(n, k),
		"n <= k":                 op(api.OpLe, n, k),
		"n == k":                 op(api.OpEq, n, k),
		"n != k":                 op(api.OpNe, n, k),
		"n + 1 > k - 1":          lt(op(api.OpSub, k, num(1)), op(api.OpAdd, n, num(1))),
		"0 == 0":                 expression.True(),
		"0 != 0":                 expression.False(),
		"true":                   expression.True(),
		"false":                  expression.False(),
		"-5":                     num(-5),
		"- 5":                    num(-5),
		"-0":                     num(0),
		"-(5)":                   op(api.OpNeg, num(5)),
		"--5":                    op(api.OpNeg, num(-5)),
		"-n":                     op(api.OpNeg, n),
		"- - n":                  op(api.OpNeg, op(api.OpNeg, n)),
		"-n*k":                   op(api.OpMul, op(api.OpNeg, n), k),
		"-5*k":                   op(api.OpMul, num(-5), k),
		"n-5":                    op(api.OpSub, n, num(5)),
		"n--5":                   op(api.OpSub, n, num(-5)),
		"n*-k":                   op(api.OpMul, n, op(api.OpNeg, k)),
		"-!n":                    op(api.OpNeg, op(api.OpNot, n)),
		"!-1":                    op(api.OpNot, num(-1)),
		"! n == k":               op(api.OpEq, op(api.OpNot, n), k),
		"n || k && n || k":       op(api.OpOr, op(api.OpOr, n, op(api.OpAnd, k, n)), k),
		"n && k && n":            op(api.OpAnd, op(api.OpAnd, n, k), n),
		"n ? k : n ? 1 : 2":      op(api.OpIte, n, k, op(api.OpIte, n, num(1), num(2))),
		"n ? k ? 1 : 2 : 3":      op(api.OpIte, n, op(api.OpIte, k, num(1), num(2)), num(3)),
		"(n ? k : n) ? 1 : 2":    op(api.OpIte, op(api.OpIte, n, k, n), num(1), num(2)),
		"n || k ? n && k : 1+2":  op(api.OpIte, op(api.OpOr, n, k), op(api.OpAnd, n, k), op(api.OpAdd, num(1), num(2))),
		"(n)":                    n,
		"(((n)+((k))))":          op(api.OpAdd, n, k),
		"(n == k) == (k == n)":   op(api.OpEq, op(api.OpEq, n, k), op(api.OpEq, k, n)),
		"65536":                  num(65536),
		"// x\n n // y":          n,
	} {
		x, line, column, e := parser.ParseExpr([]string{"n", "k"}, s)
		if !expression.Equal(x, want) || line != 0 || column != 0 || e != api.OK {
			t.Errorf("ParseExpr(%q) = %v, %d, %d, %d, not %v", s, x, line, column, e, want)
		}
	}
}

// P17.4: the errors of ParseExpr, at the mark.
func TestErrorsOfParseExpr(t *testing.T) {
	for want, l := range map[api.Errno][]string{
		api.ErrSyntax: {
			"@", "@)", "n @)", "n @k", "n @1", "n + @", "n + @)", "@+ n", "n @! k", "n @:= k", "n @= k", "n == k @== n", "n < k @> 1", "n <= 1 @!= 2", "n == @== k", "(n@", "(n @; k)", "(n @k)", "(@)", "n ? k @", "n ? k : @", "n ? @: k", "@? n : k", "n ? k @; n", "n ? k : n @: k", "! @", "- @", "- @+ n", "! @) n", "- - @* n", "n && @&& k", "n && @|| k", "n || @", "n * @* k", "n @.. k", "n @[ k ]", "n @, k", "n @true", "true @false", "n @{ k }", "@->", "n \n\n@;", "n @& k", "n @% k",
		},
		api.ErrUnknown: {"@x", "n + @x", "(@model)", "@x + y", "n ? @x : y", "n < @True", "! @tru", "- @N", "n == 1 || @_"},
		api.ErrForm:    {"n + @1n", "@01"},
		api.ErrRange:   {"n + - @65537"},
		api.ErrLong:    {"n + @" + strings.Repeat("n", 33)},
	} {
		for _, s := range l {
			text, line, column := marked(s)
			x, gotLine, gotColumn, e := parser.ParseExpr([]string{"n", "k"}, text)
			if !reflect.DeepEqual(x, expr{}) || gotLine != line || gotColumn != column || e != want {
				t.Errorf("ParseExpr(%q) = %v, %d, %d, %d, not %d", s, x, gotLine, gotColumn, e, want)
			}
		}
	}
	// The variables: any texts; the first one of equal names; true and false are no names of them.
	names := []string{"", ")", "1", "true", "n", "n", "a b"}
	for len(names) < 40 {
		names = append(names, "v"+strconv.Itoa(len(names)))
	}
	for s, want := range map[string]expr{"n": vari(4), "v39": vari(39), "true": expression.True(), "1": num(1)} {
		if x, _, _, e := parser.ParseExpr(names, s); !expression.Equal(x, want) || e != api.OK {
			t.Errorf("ParseExpr(%q) = %v, %d", s, x, e)
		}
	}
	for _, s := range []string{"", ")", "a", "(", "-"} {
		if x, _, _, e := parser.ParseExpr(names, s); !reflect.DeepEqual(x, expr{}) || e == api.OK {
			t.Errorf("ParseExpr(%q) = %v, %d", s, x, e)
		}
	}
}

// nested has parentheses and signs around an expression, one for each letter of how, and a mark before the one with an index.
func nested(how string, at int, inner string) string {
	before, after := "", ""
	for i, c := range how {
		if i == at {
			before += "@"
		}
		before += string(c)
		if c == '(' {
			after += ")"
		}
	}
	return before + inner + after
}

// P17.3, P17.4: how many parentheses and signs can stand in one another.
func TestNesting(t *testing.T) {
	r := rand.New(rand.NewSource(3))
	for i := range 3000 {
		how := make([]byte, 30+r.Intn(6))
		for k := range how {
			how[k] = "(!-"[[]int{0, 1, 2, r.Intn(3)}[i%4]]
		}
		depth, inner := len(how), "n"
		if r.Intn(3) == 0 {
			inner = "@- 1"
			depth++
		}
		s := nested(string(how), 32, strings.ReplaceAll(inner, "@", map[bool]string{true: "@"}[len(how) == 32]))
		text, line, column := marked(s)
		x, gotLine, gotColumn, e := parser.ParseExpr([]string{"n"}, text)
		switch {
		case depth <= 32 && (e != api.OK || gotLine != 0 || gotColumn != 0):
			t.Fatalf("ParseExpr(%q) = %v, %d, %d, %d", text, x, gotLine, gotColumn, e)
		case depth > 32 && (e != api.ErrLimit || gotLine != line || gotColumn != column || !reflect.DeepEqual(x, expr{})):
			t.Fatalf("ParseExpr(%q) = %v, %d, %d, %d", s, x, gotLine, gotColumn, e)
		}
		text, line, column = marked("model m; template t(x) { location p; var n : 0 .. 1 = 0; edge p x p when " + s + "; }")
		_, gotLine, gotColumn, e = parser.Parse(text)
		if e != api.OK && e != api.ErrLimit && e != api.ErrType || depth > 32 && (e != api.ErrLimit || gotLine != line || gotColumn != column) {
			t.Fatalf("Parse(%q) = %d, %d, %d", text, gotLine, gotColumn, e)
		}
	}
	full := strings.Repeat("(", 32)
	for s, want := range map[string]api.Errno{
		nested(full, -1, "n - n"):                                    api.OK, // a minus between operands nests nothing
		nested(full, -1, "n ? n : n ? n : n"):                        api.OK,
		nested(full, -1, "n") + "+" + nested(full, -1, "n"):          api.OK,
		nested(full[1:], -1, "n + (n) + -n * !n - -3 ? (n) : n"):     api.OK,
		nested(full[1:], -1, "n + (n) + (-n)"):                       api.ErrLimit,
		nested(full, -1, "n - (n)"):                                  api.ErrLimit,
		nested(full, -1, "n ? n : !n"):                               api.ErrLimit,
		nested(full, -1, "n") + "- (" + nested(full, -1, "n") + ")":  api.ErrLimit,
		nested(full[:16], -1, nested(full[:16], -1, "n")+" * !-1"):   api.OK,
		nested(full[:16], -1, nested(full[:16], -1, "n")+" * !-(1)"): api.OK,
	} {
		if _, _, _, e := parser.ParseExpr([]string{"n"}, s); e != want {
			t.Errorf("ParseExpr(%q): %d, not %d", s, e, want)
		}
	}
}

// P17.4: nothing else limits expressions; types are not checked.
func TestLongExpressions(t *testing.T) {
	x, _, _, e := parser.ParseExpr([]string{"n"}, "n"+strings.Repeat("-n", 32000))
	for range 32000 {
		if e != api.OK || x.Op != api.OpSub || len(x.Args) != 2 || !expression.Equal(x.Args[1], vari(0)) {
			t.Fatalf("ParseExpr of a sum: %d", e)
		}
		x = x.Args[0]
	}
	x, _, _, e = parser.ParseExpr([]string{"n"}, strings.Repeat("n?n:", 16000)+"n")
	for range 16000 {
		if e != api.OK || x.Op != api.OpIte || len(x.Args) != 3 || !expression.Equal(x.Args[0], vari(0)) || !expression.Equal(x.Args[1], vari(0)) {
			t.Fatalf("ParseExpr of choices: %d", e)
		}
		x = x.Args[2]
	}
	x, _, _, e = parser.ParseExpr([]string{"n"}, strings.Repeat("n?", 16000)+"n"+strings.Repeat(":n", 16000))
	for range 16000 {
		if e != api.OK || x.Op != api.OpIte {
			t.Fatalf("ParseExpr of choices: %d", e)
		}
		x = x.Args[1]
	}
	if _, line, column, e := parser.ParseExpr([]string{"n"}, strings.Repeat("n?", 32000)+"n"); line != 1 || column != 64002 || e != api.ErrSyntax {
		t.Errorf("ParseExpr = %d, %d, %d", line, column, e)
	}
	s := "model m; template t(x) { location p; var n : 0 .. 1 = 0; edge p x p when " + strings.Repeat("n?n:", 16000) + "n; }"
	if _, _, column, e := parser.Parse(s); column != len(s)+1 || e != api.ErrLimit {
		t.Errorf("Parse = %d, %d", column, e)
	}
}

// words has the tokens of the language.
func words() []string {
	return append(pool(), strings.Fields("-> := == != <= >= .. && || { } ( ) [ ] , ; : = < > + - * ! ? 0 1 2 65536 ; ; ( ) , location p q x")...)
}

// P1, P17.3, P17.5: texts in which tokens were exchanged, left out or added: an error has the place of a token that is not before the first change; what can be read is valid, and comes back from its text.
func TestChangedTexts(t *testing.T) {
	r := rand.New(rand.NewSource(4))
	right := 0
	kinds := map[api.Errno]int{}
	for range 8000 {
		s := textOfWhole
		if r.Intn(2) == 0 {
			s = textOfModel(drawModel(r))
		}
		l, _, _, _ := lexer.Scan(s)
		at := r.Intn(len(l) - 1)
		var texts []string
		for _, x := range l[:len(l)-1] {
			texts = append(texts, x.Text)
		}
		word := words()[r.Intn(len(words()))]
		switch r.Intn(4) {
		case 0:
			texts = slices.Delete(texts, at, at+1)
		case 1:
			texts = slices.Insert(texts, at, word)
		case 2:
			texts[at] = word
		case 3:
			texts = texts[:at]
		}
		s = strings.Join(texts, "\n")
		m, line, column, e := parser.Parse(s)
		kinds[e]++
		if e != api.OK {
			places, _, _, _ := lexer.Scan(s)
			index := slices.IndexFunc(places, func(x lexer.Token) bool { return x.Line == line && x.Column == column })
			if !reflect.DeepEqual(m, model{}) || index < at {
				t.Fatalf("Parse(%q), from %d on: %d, %d, %d", s, at, line, column, e)
			}
			continue
		}
		right++
		text, e := parser.Print(m)
		if e != api.OK || parser.Check(m) != api.OK || !parser.Equal(mustParse(t, text), m) {
			t.Fatalf("Print(%v) = %q, %d", m, text, e)
		}
	}
	if right < 300 || kinds[api.ErrSyntax] < 1000 || kinds[api.ErrUnknown] < 50 || kinds[api.ErrDuplicate] < 10 {
		t.Errorf("%d can be read; errors: %v", right, kinds)
	}
}

// P17.5: comments, blanks and superfluous parentheses do not change the model.
func TestBlanksAndComments(t *testing.T) {
	r := rand.New(rand.NewSource(5))
	for range 2000 {
		m := drawModel(r)
		text := textOfModel(m)
		l, _, _, _ := lexer.Scan(text)
		var b strings.Builder
		for _, x := range l {
			b.WriteString([]string{" ", "\t", "\r\n", " // model x; }\n", "//\n\n"}[r.Intn(5)] + x.Text)
		}
		if got := mustParse(t, b.String()); !parser.Equal(got, m) {
			t.Fatalf("Parse(%q) = %v, not %v", b.String(), got, m)
		}
		if got, _, _, e := parser.Format(b.String()); got != text || e != api.OK {
			t.Fatalf("Format(%q) = %q, %d", b.String(), got, e)
		}
	}
	with := func(guard, value string) string {
		return "model m; template t(x) { location p; var n : 0 .. 3 = 0; edge p x p when " + guard + " do n := " + value + "; }"
	}
	want := mustParse(t, with("n + 1 < 3 && ! (n == 0)", "n - 1"))
	for _, s := range []string{with("((n) + (1)) < (3) && !((n == 0))", "(((n - 1)))"), with("((n + 1 < 3) && (!(n == 0)))", "n - (1)"), with("(n+1<3)&&!(n==0)", "(n) - 1")} {
		if got := mustParse(t, s); !parser.Equal(got, want) {
			t.Errorf("Parse(%q) = %v, not %v", s, got, want)
		}
	}
}

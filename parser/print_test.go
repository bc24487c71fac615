package parser_test

import (
	"math/rand"
	"reflect"
	"strings"
	"testing"

	"overseer/api"
	"overseer/expression"
	"overseer/lexer"
	"overseer/parser"
)

// P17.2
func TestPrint(t *testing.T) {
	for _, m := range []model{whole(), {Name: "m"}} {
		want := textOfModel(m)
		if got, e := parser.Print(m); got != want || e != api.OK {
			t.Errorf("Print = %d\n%s, not\n%s", e, got, want)
		}
	}
	if got, e := parser.Print(whole()); got != textOfWhole || e != api.OK {
		t.Errorf("Print = %d\n%s, not\n%s", e, got, textOfWhole)
	}
}

// P17.2, P17.3, P17.5: models and their texts.
func TestRandomModels(t *testing.T) {
	r := rand.New(rand.NewSource(1))
	for range 3000 {
		m := drawModel(r)
		text, e := parser.Print(m)
		if e != api.OK || text != textOfModel(m) {
			t.Fatalf("Print(%v) = %d\n%s, not\n%s", m, e, text, textOfModel(m))
		}
		tokens, _, _, e := lexer.Scan(text)
		if pretty, e2 := lexer.Pretty(tokens); e != api.OK || e2 != api.OK || pretty != text {
			t.Fatalf("Pretty of the tokens of\n%s is\n%s", text, pretty)
		}
		if again := mustParse(t, text); !parser.Equal(again, m) {
			t.Fatalf("Parse of\n%s\nis %v, not %v", text, again, m)
		}
		if again, line, column, e := parser.Format(text); again != text || line != 0 || column != 0 || e != api.OK {
			t.Fatalf("Format of\n%s\nis %d\n%s", text, e, again)
		}
	}
}

// long is a model whose text has so many bytes, from 60000 on: most of them from an exclusion, in which two tokens of each Local have no blank before them.
func long(length int) model {
	m := model{Name: "m", Exclusions: []api.NamedExclusion{{Name: "x"}}}
	most := length - len("model m;\nexclude x : ;\n")
	for ; most >= 10; most -= 5 {
		m.Exclusions[0].Locals = append(m.Exclusions[0].Locals, api.NamedLocal{Component: "a", Location: "b"})
	}
	m.Exclusions[0].Locals = append(m.Exclusions[0].Locals, api.NamedLocal{Component: "a", Location: strings.Repeat("b", most-2)})
	return m
}

// P17.2: the longest text, and longer ones.
func TestLongTexts(t *testing.T) {
	for length := 65520; length <= 65550; length++ {
		m := long(length)
		want := textOfModel(m)
		if len(want) != length {
			t.Fatalf("%d bytes, not %d", len(want), length)
		}
		text, e := parser.Print(m)
		if length > api.MaxText {
			if text != "" || e != api.ErrLong {
				t.Errorf("Print of %d bytes: %d bytes, %d", length, len(text), e)
			}
			continue
		}
		if text != want || e != api.OK {
			t.Errorf("Print of %d bytes: %d bytes, %d", length, len(text), e)
		}
		if !parser.Equal(mustParse(t, text), m) {
			t.Errorf("Parse of %d bytes", length)
		}
		if again, _, _, e := parser.Format(text); again != text || e != api.OK {
			t.Errorf("Format of %d bytes: %d", length, e)
		}
	}
	if text, e := parser.Print(long(1 << 20)); text != "" || e != api.ErrLong {
		t.Errorf("Print: %d bytes, %d", len(text), e)
	}
	invalid := long(1 << 20)
	invalid.Exclusions[0].Locals[7].Location = ""
	if text, e := parser.Print(invalid); text != "" || e != api.ErrName {
		t.Errorf("Print: %d bytes, %d", len(text), e)
	}
}

// P17.4
func TestFormat(t *testing.T) {
	for s, want := range map[string]string{
		"model m;": "model m;\n",
		"model m; event a controllable; template t(x) { location p marked; edge p x p; } component c = t(a);": `model m;
event a controllable;
template t (x) {
  location p initial marked;
  edge p x p;
}
component c = t (a);
`,
		"model/**/m;": "",
		"model m;limit a:-0*b<=-1;template t(){edge//}\n": "",
		"//\nmodel m; limit l:0*c<=2; exclude x:c d; requirement r=t(); component c=t(); template t(){var n:1..1=1;location p;}event e;": `model m;
event e;
template t () {
  location p initial;
  var n : 1 .. 1 = 1;
}
component c = t ();
requirement r = t ();
exclude x : c d;
limit l : 0 * c <= 2;
`,
	} {
		got, line, column, e := parser.Format(s)
		if want == "" {
			_, l, c, e2 := parser.Parse(s)
			if got != "" || line != l || column != c || e != e2 || e == api.OK {
				t.Errorf("Format(%q) = %q, %d, %d, %d", s, got, line, column, e)
			}
			continue
		}
		if got != want || line != 0 || column != 0 || e != api.OK {
			t.Errorf("Format(%q) = %q, %d, %d, %d", s, got, line, column, e)
		}
	}
	// The text can be read, but that of its model is too long.
	s := "model m;exclude x:" + strings.Repeat("a b,", 16000) + "a b;"
	if !parser.Equal(mustParse(t, s), mustParse(t, s+" //")) {
		t.Error("Parse")
	}
	if text, line, column, e := parser.Format("\n" + s); text != "" || line != 1 || column != 1 || e != api.ErrLong {
		t.Errorf("Format: %d bytes, %d, %d, %d", len(text), line, column, e)
	}
	if text, line, column, e := parser.Format(strings.Repeat(" ", 65537)); text != "" || line != 1 || column != 1 || e != api.ErrLong {
		t.Errorf("Format: %d bytes, %d, %d, %d", len(text), line, column, e)
	}
	for i, c := range breakages() { // the errors of Check, of a text that has them
		m := whole()
		c.damage(&m)
		switch c.e {
		case api.ErrConflict, api.ErrType:
			s := func() string { defer func() { _ = recover() }(); return textOfModel(m) }()
			if text, line, column, e := parser.Format(s); text != "" || line != 1+strings.Count(s, "\n") || column != 1 || e != c.e {
				t.Errorf("%d: Format = %q, %d, %d, %d, not %d", i, text, line, column, e, c.e)
			}
		}
	}
}

// P17.4, P17.5
func TestPrintExpr(t *testing.T) {
	n, k := vari(0), vari(1)
	names := []string{"n", "k"}
	is := op(api.OpEq, n, k)
	for i, c := range []struct {
		x    expr
		want string
	}{
		{num(0), "0"}, {num(-5), "- 5"}, {num(65536), "65536"}, {n, "n"}, {k, "k"},
		{expression.True(), "true"}, {expression.False(), "false"},
		{op(api.OpEq, num(0), num(1)), "0 == 1"}, {op(api.OpNe, num(0), num(-0)), "false"}, {op(api.OpNe, num(1), num(0)), "1 != 0"}, {op(api.OpLe, num(0), num(0)), "0 <= 0"},
		{op(api.OpNeg, num(5)), "- ( 5 )"}, {op(api.OpNeg, num(0)), "- ( 0 )"}, {op(api.OpNeg, num(-5)), "- - 5"}, {op(api.OpNeg, n), "- n"},
		{op(api.OpNeg, op(api.OpNeg, num(5))), "- - ( 5 )"}, {op(api.OpNeg, op(api.OpAdd, n, k)), "- ( n + k )"}, {op(api.OpNeg, op(api.OpMul, n, k)), "- ( n * k )"},
		{op(api.OpSub, n, num(-3)), "n - - 3"}, {op(api.OpMul, num(-3), num(-3)), "- 3 * - 3"}, {op(api.OpMul, op(api.OpNeg, n), k), "- n * k"},
		{op(api.OpAnd, op(api.OpLt, op(api.OpAdd, n, num(1)), num(3)), op(api.OpNot, op(api.OpEq, n, num(0)))), "n + 1 < 3 && ! ( n == 0 )"},
		{op(api.OpSub, op(api.OpSub, num(2), num(3)), num(4)), "2 - 3 - 4"}, {op(api.OpSub, num(2), op(api.OpSub, num(3), num(4))), "2 - ( 3 - 4 )"},
		{op(api.OpAdd, n, op(api.OpAdd, n, k)), "n + ( n + k )"}, {op(api.OpAdd, op(api.OpSub, n, k), k), "n - k + k"},
		{op(api.OpMul, op(api.OpAdd, n, k), op(api.OpMul, n, k)), "( n + k ) * ( n * k )"}, {op(api.OpMul, op(api.OpMul, n, k), n), "n * k * n"},
		{op(api.OpAdd, op(api.OpMul, n, k), op(api.OpMul, n, k)), "n * k + n * k"},
		{op(api.OpNot, expression.True()), "! true"}, {op(api.OpNot, op(api.OpNot, is)), "! ! ( n == k )"}, {op(api.OpNot, op(api.OpAnd, is, is)), "! ( n == k && n == k )"},
		{op(api.OpAnd, is, op(api.OpAnd, is, is)), "n == k && ( n == k && n == k )"}, {op(api.OpAnd, op(api.OpAnd, is, is), is), "n == k && n == k && n == k"},
		{op(api.OpOr, is, op(api.OpOr, is, is)), "n == k || ( n == k || n == k )"}, {op(api.OpOr, op(api.OpAnd, is, is), op(api.OpAnd, is, is)), "n == k && n == k || n == k && n == k"},
		{op(api.OpAnd, op(api.OpOr, is, is), op(api.OpOr, is, is)), "( n == k || n == k ) && ( n == k || n == k )"},
		{op(api.OpIte, is, n, k), "n == k ? n : k"}, {op(api.OpIte, op(api.OpIte, is, is, is), is, is), "( n == k ? n == k : n == k ) ? n == k : n == k"},
		{op(api.OpIte, is, op(api.OpIte, is, n, k), op(api.OpIte, is, n, k)), "n == k ? n == k ? n : k : n == k ? n : k"},
		{op(api.OpIte, op(api.OpOr, is, is), n, k), "n == k || n == k ? n : k"},
		{op(api.OpAdd, op(api.OpIte, is, n, k), op(api.OpIte, is, n, k)), "( n == k ? n : k ) + ( n == k ? n : k )"}, {op(api.OpNeg, op(api.OpIte, is, n, k)), "- ( n == k ? n : k )"},
		{op(api.OpOr, op(api.OpIte, is, is, is), expression.False()), "( n == k ? n == k : n == k ) || false"},
		{op(api.OpLe, op(api.OpIte, is, n, k), op(api.OpSub, n, k)), "( n == k ? n : k ) <= n - k"},
	} {
		got, e := parser.PrintExpr(names, c.x)
		if got != c.want || e != api.OK {
			t.Errorf("%d: PrintExpr = %q, %d, not %q", i, got, e, c.want)
		}
		if x, line, column, e := parser.ParseExpr(names, got); !expression.Equal(x, c.x) || line != 0 || column != 0 || e != api.OK {
			t.Errorf("%d: ParseExpr(%q) = %v, %d", i, got, x, e)
		}
	}
}

// P17.4, P17.5: expressions and their texts, also with superfluous parentheses.
func TestRandomExpressions(t *testing.T) {
	r := rand.New(rand.NewSource(2))
	for i := range 20000 {
		names := drawNames(r, r.Intn(5), true)
		x := drawSound(r, 1+i%2, len(names))
		want := textOf(x, names, never)
		got, e := parser.PrintExpr(names, x)
		if got != want || e != api.OK {
			t.Fatalf("PrintExpr(%v) = %q, %d, not %q", x, got, e, want)
		}
		tokens, _, _, e := lexer.Scan(got)
		if joined, e2 := lexer.Join(tokens); e != api.OK || e2 != api.OK || joined != got {
			t.Fatalf("Join of the tokens of %q is %q", got, joined)
		}
		more := textOf(x, names, func() bool { return r.Intn(4) == 0 })
		for _, s := range []string{got, more, "(" + more + ")", strings.ReplaceAll(more, " ", ""), strings.ReplaceAll(more, " ", "\n// )\n\t")} {
			y, line, column, e := parser.ParseExpr(names, s)
			if !expression.Equal(y, x) || line != 0 || column != 0 || e != api.OK {
				t.Fatalf("ParseExpr(%q) = %v, %d, %d, %d, not %v", s, y, line, column, e, x)
			}
		}
	}
}

// P17.4: the errors of PrintExpr in their order.
func TestErrorsOfPrintExpr(t *testing.T) {
	many := make([]string, 17)
	for i := range many {
		many[i] = "v"
	}
	for i, c := range []struct {
		variables []string
		x         expr
		e         api.Errno
	}{
		{[]string{"n", "1"}, expr{Op: 99}, api.ErrName},
		{[]string{"n", "true"}, expr{Op: 99}, api.ErrName},
		{[]string{"false"}, expr{Op: 99}, api.ErrName},
		{[]string{""}, num(1), api.ErrName},
		{append([]string{"-"}, many...), num(1), api.ErrName},
		{many, num(1), api.ErrRange},
		{[]string{"n", "True"}, expr{Op: 99}, api.ErrKind},
		{[]string{"n"}, vari(1), api.ErrRange},
		{nil, op(api.OpNot, num(1)), api.ErrType},
		{nil, expr{Value: 65537}, api.ErrRange},
		{nil, expr{Index: 1}, api.ErrForm},
		{[]string{"n"}, deep(), api.ErrLimit},
		{[]string{"n"}, op(api.OpAdd, num(1)), api.ErrSize},
	} {
		if s, e := parser.PrintExpr(c.variables, c.x); s != "" || e != c.e {
			t.Errorf("%d: PrintExpr = %q, %d, not %d", i, s, e, c.e)
		}
	}
	if s, e := parser.PrintExpr([]string{"v", "v"}, op(api.OpAdd, vari(0), vari(1))); s != "v + v" || e != api.OK {
		t.Errorf("PrintExpr = %q, %d", s, e)
	}
	if s, e := parser.PrintExpr(many[:16], vari(15)); s != "v" || e != api.OK {
		t.Errorf("PrintExpr = %q, %d", s, e)
	}
}

// Arguments stay as they are.
func TestArgumentsStay(t *testing.T) {
	m := whole()
	parser.Check(m)
	parser.Print(m)
	parser.Equal(m, m)
	if !reflect.DeepEqual(m, whole()) {
		t.Error("a model changes")
	}
	names := []string{"n", "k"}
	x := op(api.OpIte, expression.True(), vari(1), num(3))
	parser.PrintExpr(names, x)
	parser.ParseExpr(names, "n + k")
	if !reflect.DeepEqual(names, []string{"n", "k"}) || !reflect.DeepEqual(x, op(api.OpIte, expression.True(), vari(1), num(3))) {
		t.Error("an expression changes")
	}
}

package parser_test

import (
	"fmt"
	"math/rand"
	"reflect"
	"slices"
	"strings"
	"testing"

	"overseer/api"
	"overseer/expression"
	"overseer/parser"
)

type (
	expr  = api.Expr
	model = api.Model
)

func num(value int) expr {
	return expr{Op: api.OpConst, Value: value}
}

func vari(index int) expr {
	return expr{Op: api.OpVar, Index: index}
}

func op(op int, args ...expr) expr {
	return expr{Op: op, Args: args}
}

// whole is a model with everything that a model can have, and textOfWhole its text.
func whole() model {
	n, k := vari(0), vari(1)
	return model{
		Name: "cell",
		Events: []api.Event{
			{Name: "start", Controllable: true, Observable: true, Forcible: true},
			{Name: "finish", Observable: true},
			{Name: "break", Forcible: true, Fault: 4},
			{Name: "c", Controllable: true},
		},
		Templates: []api.Template{
			{
				Name:      "machine",
				Events:    []string{"go", "end", "stop"},
				Locations: []string{"idle", "busy", "end"},
				Machine: api.Extended{
					Alphabet:  []int{0, 1, 2},
					Locations: 3,
					Initial:   1,
					Marked:    []int{0, 1},
					Variables: []api.Variable{{Name: "n", Low: -3, High: 65536, Initial: -1}, {Name: "when", High: 2}, {Name: "do", Low: 1, High: 1, Initial: 1}},
					Moves: []api.Move{
						{From: 2, Event: 1, To: 0, Guard: op(api.OpLt, op(api.OpAdd, n, num(1)), k), Updates: []api.Update{{Variable: 0, Value: op(api.OpNeg, num(2))}, {Variable: 2, Value: num(-2)}}},
						{From: 0, Event: 0, To: 1, Guard: expression.True(), Updates: []api.Update{{Variable: 1, Value: op(api.OpIte, expression.False(), n, k)}}},
						{From: 0, Event: 0, To: 1, Guard: expression.False()},
						{From: 1, Event: 2, To: 2, Guard: expression.True()},
					},
				},
			},
			{Name: "empty"},
			{Name: "cell", Events: []string{"cell"}, Locations: []string{"true"}, Machine: api.Extended{Alphabet: []int{0}, Locations: 1}},
		},
		Components:   []api.Instance{{Name: "m1", Template: "machine", Events: []string{"start", "finish", "break"}}, {Name: "m2", Template: "unknown"}},
		Requirements: []api.Instance{{Name: "r1", Template: "cell", Events: []string{"start", "start"}}, {Name: "cell", Template: "empty"}},
		Exclusions: []api.NamedExclusion{
			{Name: "x", Locals: []api.NamedLocal{{Component: "m1", Location: "busy"}, {Component: "m2", Location: "busy"}, {Component: "m2", Location: "busy"}}},
			{Name: "y", Locals: []api.NamedLocal{{Component: "x", Location: "x"}}},
		},
		Constraints: []api.NamedConstraint{
			{Name: "x", Terms: []api.NamedTerm{{Component: "m1", Factor: 2}, {Component: "m2", Factor: -65536}, {Component: "m1", Factor: 0}}, Bound: -7},
			{Name: "y", Terms: []api.NamedTerm{{Component: "y", Factor: 65536}}, Bound: 65536},
		},
	}
}

const textOfWhole = `model cell;
event start controllable observable forcible;
event finish observable;
event break forcible fault 4;
event c controllable;
template machine (go, end, stop) {
  location idle marked;
  location busy initial marked;
  location end;
  var n : - 3 .. 65536 = - 1;
  var when : 0 .. 2 = 0;
  var do : 1 .. 1 = 1;
  edge end end idle when n + 1 < when do n := - (2), do := - 2;
  edge idle go busy do when := false ? n : when;
  edge idle go busy when false;
  edge busy stop end;
}
template empty () {
}
template cell (cell) {
  location true initial;
}
component m1 = machine (start, finish, break);
component m2 = unknown ();
requirement r1 = cell (start, start);
requirement cell = empty ();
exclude x : m1 busy, m2 busy, m2 busy;
exclude y : x x;
limit x : 2 * m1 + - 65536 * m2 + 0 * m1 <= - 7;
limit y : 65536 * y <= 65536;
`

// levelOf is the level of an expression, by the words of the chapter.
func levelOf(x expr) int {
	if reflect.DeepEqual(x, expression.True()) || reflect.DeepEqual(x, expression.False()) {
		return 7
	}
	switch x.Op {
	case api.OpIte:
		return 0
	case api.OpOr:
		return 1
	case api.OpAnd:
		return 2
	case api.OpEq, api.OpNe, api.OpLt, api.OpLe:
		return 3
	case api.OpAdd, api.OpSub:
		return 4
	case api.OpMul:
		return 5
	case api.OpNot, api.OpNeg:
		return 6
	case api.OpConst:
		if x.Value < 0 {
			return 6
		}
	}
	return 7
}

// textOf is the text of an expression with a blank between each two tokens, by the words of the chapter; with more parentheses where a function says so.
func textOf(x expr, variables []string, more func() bool) string {
	at := func(i, level int) string {
		a := x.Args[i]
		s := textOf(a, variables, more)
		if levelOf(a) < level || more() || x.Op == api.OpNeg && a.Op == api.OpConst && a.Value >= 0 {
			return "( " + s + " )"
		}
		return s
	}
	switch {
	case reflect.DeepEqual(x, expression.True()):
		return "true"
	case reflect.DeepEqual(x, expression.False()):
		return "false"
	}
	switch x.Op {
	case api.OpConst:
		return strings.Replace(fmt.Sprint(x.Value), "-", "- ", 1)
	case api.OpVar:
		return variables[x.Index]
	case api.OpNot:
		return "! " + at(0, 6)
	case api.OpNeg:
		return "- " + at(0, 6)
	case api.OpMul:
		return at(0, 5) + " * " + at(1, 6)
	case api.OpAdd:
		return at(0, 4) + " + " + at(1, 5)
	case api.OpSub:
		return at(0, 4) + " - " + at(1, 5)
	case api.OpEq:
		return at(0, 4) + " == " + at(1, 4)
	case api.OpNe:
		return at(0, 4) + " != " + at(1, 4)
	case api.OpLt:
		return at(0, 4) + " < " + at(1, 4)
	case api.OpLe:
		return at(0, 4) + " <= " + at(1, 4)
	case api.OpAnd:
		return at(0, 2) + " && " + at(1, 3)
	case api.OpOr:
		return at(0, 1) + " || " + at(1, 2)
	}
	return at(0, 1) + " ? " + at(1, 0) + " : " + at(2, 0)
}

func never() bool {
	return false
}

// prettyText is the text of an expression in the lines of a model.
func prettyText(x expr, variables []string) string {
	return strings.ReplaceAll(strings.ReplaceAll(textOf(x, variables, never), "( ", "("), " )", ")")
}

// textOfModel is the text of a model, by the words of the chapter.
func textOfModel(m model) string {
	var b strings.Builder
	put := func(parts ...string) { b.WriteString(strings.Join(parts, "")) }
	is := func(is bool, s string) string {
		if is {
			return " " + s
		}
		return ""
	}
	integer := func(x int) string { return strings.Replace(fmt.Sprint(x), "-", "- ", 1) }
	put("model ", m.Name, ";\n")
	for _, x := range m.Events {
		put("event ", x.Name, is(x.Controllable, "controllable"), is(x.Observable, "observable"), is(x.Forcible, "forcible"), is(x.Fault != 0, fmt.Sprint("fault ", x.Fault)), ";\n")
	}
	for _, t := range m.Templates {
		put("template ", t.Name, " (", strings.Join(t.Events, ", "), ") {\n")
		for i, name := range t.Locations {
			put("  location ", name, is(t.Machine.Initial == i, "initial"), is(slices.Contains(t.Machine.Marked, i), "marked"), ";\n")
		}
		var variables []string
		for _, v := range t.Machine.Variables {
			put("  var ", v.Name, " : ", integer(v.Low), " .. ", integer(v.High), " = ", integer(v.Initial), ";\n")
			variables = append(variables, v.Name)
		}
		for _, x := range t.Machine.Moves {
			put("  edge ", t.Locations[x.From], " ", t.Events[x.Event], " ", t.Locations[x.To])
			put(is(!reflect.DeepEqual(x.Guard, expression.True()), "when "+prettyText(x.Guard, variables)))
			for i, u := range x.Updates {
				put([]string{" do ", ", "}[min(i, 1)], variables[u.Variable], " := ", prettyText(u.Value, variables))
			}
			put(";\n")
		}
		put("}\n")
	}
	for _, x := range m.Components {
		put("component ", x.Name, " = ", x.Template, " (", strings.Join(x.Events, ", "), ");\n")
	}
	for _, x := range m.Requirements {
		put("requirement ", x.Name, " = ", x.Template, " (", strings.Join(x.Events, ", "), ");\n")
	}
	for _, x := range m.Exclusions {
		var l []string
		for _, y := range x.Locals {
			l = append(l, y.Component+" "+y.Location)
		}
		put("exclude ", x.Name, " : ", strings.Join(l, ", "), ";\n")
	}
	for _, x := range m.Constraints {
		var l []string
		for _, y := range x.Terms {
			l = append(l, integer(y.Factor)+" * "+y.Component)
		}
		put("limit ", x.Name, " : ", strings.Join(l, " + "), " <= ", integer(x.Bound), ";\n")
	}
	return b.String()
}

// pool has names, words of the language among them.
func pool() []string {
	return strings.Fields("a b c n x_1 _ Z model event template component requirement exclude limit location var edge when do initial marked controllable observable forcible fault true false")
}

// drawNames draws different names.
func drawNames(r *rand.Rand, n int, variables bool) []string {
	l := pool()
	r.Shuffle(len(l), func(i, k int) { l[i], l[k] = l[k], l[i] })
	if variables {
		l = slices.DeleteFunc(l, func(s string) bool { return s == "true" || s == "false" })
	}
	return l[:n]
}

func drawName(r *rand.Rand) string {
	return drawNames(r, 1, false)[0]
}

func drawInt(r *rand.Rand) int {
	return []int{0, 1, -1, 2, 65536, -65536, r.Intn(2*65536+1) - 65536}[r.Intn(7)]
}

// drawExpr draws an expression of a type, of at most so many levels.
func drawExpr(r *rand.Rand, kind, levels, n int) expr {
	if levels == 1 && kind == expression.Bool {
		return [...]expr{expression.True(), expression.False()}[r.Intn(2)]
	}
	if levels == 1 || kind == expression.Int && r.Intn(4) == 0 {
		if n > 0 && r.Intn(2) == 0 {
			return vari(r.Intn(n))
		}
		return num(drawInt(r))
	}
	sub := func(kind int) expr { return drawExpr(r, kind, levels-1, n) }
	of := func(op, n, takes int) expr {
		x := expr{Op: op}
		for range n {
			x.Args = append(x.Args, sub(takes))
		}
		return x
	}
	if r.Intn(6) == 0 {
		return op(api.OpIte, sub(expression.Bool), sub(kind), sub(kind))
	}
	if kind == expression.Int {
		return [...]func() expr{
			func() expr { return of(api.OpAdd, 2, kind) }, func() expr { return of(api.OpSub, 2, kind) },
			func() expr { return of(api.OpMul, 2, kind) }, func() expr { return of(api.OpNeg, 1, kind) },
		}[r.Intn(4)]()
	}
	if levels == 2 {
		return [...]expr{expression.True(), expression.False(), op(api.OpNot, expression.True()), of(api.OpEq+r.Intn(4), 2, expression.Int)}[r.Intn(4)]
	}
	return [...]func() expr{
		func() expr { return of(api.OpEq+r.Intn(4), 2, expression.Int) }, func() expr { return of(api.OpNot, 1, kind) },
		func() expr { return of(api.OpAnd, 2, kind) }, func() expr { return of(api.OpOr, 2, kind) },
	}[r.Intn(4)]()
}

// drawSound draws an expression that expression.Check accepts.
func drawSound(r *rand.Rand, kind, n int) expr {
	for {
		x := drawExpr(r, kind, 2+r.Intn(5), n)
		if _, e := expression.Check(x, n); e == api.OK {
			return x
		}
	}
}

func drawTemplate(r *rand.Rand, name string) api.Template {
	t := api.Template{Name: name, Events: drawNames(r, r.Intn(4), false), Locations: drawNames(r, r.Intn(5), false)}
	m := &t.Machine
	for i := range t.Events {
		m.Alphabet = append(m.Alphabet, i)
	}
	m.Locations = len(t.Locations)
	for i := range t.Locations {
		if r.Intn(2) == 0 {
			m.Marked = append(m.Marked, i)
		}
	}
	for _, name := range drawNames(r, r.Intn(4), true) {
		l := []int{drawInt(r), drawInt(r), drawInt(r)}
		slices.Sort(l)
		m.Variables = append(m.Variables, api.Variable{Name: name, Low: l[0], Initial: l[1], High: l[2]})
	}
	if len(t.Locations) == 0 || len(t.Events) == 0 {
		return t
	}
	m.Initial = r.Intn(m.Locations)
	for range r.Intn(5) {
		x := api.Move{From: r.Intn(m.Locations), Event: r.Intn(len(t.Events)), To: r.Intn(m.Locations), Guard: expression.True()}
		if r.Intn(2) == 0 {
			x.Guard = drawSound(r, expression.Bool, len(m.Variables))
		}
		for i := range m.Variables {
			if r.Intn(2) == 0 {
				x.Updates = append(x.Updates, api.Update{Variable: i, Value: drawSound(r, expression.Int, len(m.Variables))})
			}
		}
		m.Moves = append(m.Moves, x)
	}
	return t
}

// drawModel draws a valid model.
func drawModel(r *rand.Rand) model {
	m := model{Name: drawName(r)}
	for _, name := range drawNames(r, r.Intn(5), false) {
		x := api.Event{Name: name, Forcible: r.Intn(2) == 0, Fault: max(0, r.Intn(8)-3)}
		if x.Fault == 0 {
			x.Controllable, x.Observable = r.Intn(2) == 0, r.Intn(2) == 0
		}
		m.Events = append(m.Events, x)
	}
	for _, name := range drawNames(r, r.Intn(4), false) {
		m.Templates = append(m.Templates, drawTemplate(r, name))
	}
	for i, name := range drawNames(r, r.Intn(6), false) {
		x := api.Instance{Name: name, Template: drawName(r)}
		for range r.Intn(4) {
			x.Events = append(x.Events, drawName(r))
		}
		if i%2 == 0 {
			m.Components = append(m.Components, x)
		} else {
			m.Requirements = append(m.Requirements, x)
		}
	}
	for _, name := range drawNames(r, r.Intn(4), false) {
		x := api.NamedExclusion{Name: name}
		for range 1 + r.Intn(3) {
			x.Locals = append(x.Locals, api.NamedLocal{Component: drawName(r), Location: drawName(r)})
		}
		m.Exclusions = append(m.Exclusions, x)
	}
	for _, name := range drawNames(r, r.Intn(4), false) {
		x := api.NamedConstraint{Name: name, Bound: drawInt(r)}
		for range 1 + r.Intn(3) {
			x.Terms = append(x.Terms, api.NamedTerm{Component: drawName(r), Factor: drawInt(r)})
		}
		m.Constraints = append(m.Constraints, x)
	}
	return m
}

// marked divides a text at the mark @ into the text without it, and the place of the mark.
func marked(s string) (text string, line, column int) {
	before, after, _ := strings.Cut(s, "@")
	return before + after, 1 + strings.Count(before, "\n"), len(before) - strings.LastIndex(before, "\n")
}

// mustParse is the model of a text.
func mustParse(t *testing.T, s string) model {
	t.Helper()
	m, line, column, e := parser.Parse(s)
	if line != 0 || column != 0 || e != api.OK {
		t.Fatalf("Parse(%q): %d, %d, %d", s, line, column, e)
	}
	return m
}

package guard_test

import (
	"math/rand"
	"reflect"
	"slices"
	"strconv"
	"testing"

	"overseer/api"
	"overseer/expression"
	"overseer/guard"
)

type (
	ints  = []int
	bools = []bool
	expr  = api.Expr
	boxes = []guard.Box
)

func num(value int) expr { return expr{Op: api.OpConst, Value: value} }

func vari(index int) expr { return expr{Op: api.OpVar, Index: index} }

func op(o int, arguments ...expr) expr { return expr{Op: o, Args: arguments} }

// ranges are variables v0, v1, .. with the numbers from 0 to these.
func ranges(highs ...int) []api.Variable {
	var l []api.Variable
	for i, high := range highs {
		l = append(l, api.Variable{Name: "v" + strconv.Itoa(i), High: high})
	}
	return l
}

// bits are n variables from 0 to 1.
func bits(n int) []api.Variable {
	return ranges(slices.Repeat(ints{1}, n)...)
}

// example are the variables of the chapter's examples: x from 0 to 3 and y from 0 to 1.
func example() []api.Variable {
	return []api.Variable{{Name: "x", High: 3}, {Name: "y", High: 1}}
}

// drawVariables draws at most so many variables with at most so many values each, some of them negative.
func drawVariables(r *rand.Rand, variables, values int) []api.Variable {
	var l []api.Variable
	for i := range r.Intn(variables + 1) {
		low := r.Intn(7) - 4
		high := low + r.Intn(values)
		l = append(l, api.Variable{Name: "v" + strconv.Itoa(i), Low: low, High: high, Initial: low + r.Intn(high-low+1)})
	}
	return l
}

// drawExpr draws an expression of a type with at most so many levels.
func drawExpr(r *rand.Rand, l []api.Variable, kind, levels int) expr {
	sub := func(kind int) expr { return drawExpr(r, l, kind, levels-1) }
	if kind == expression.Int {
		switch {
		case levels > 1 && r.Intn(3) == 0:
			return op(api.OpAdd+r.Intn(3), sub(kind), sub(kind))
		case levels > 2 && r.Intn(6) == 0:
			return op(api.OpIte, sub(expression.Bool), sub(kind), sub(kind))
		case len(l) > 0 && r.Intn(3) > 0:
			return vari(r.Intn(len(l)))
		}
		return num(r.Intn(9) - 4)
	}
	switch {
	case levels > 2 && r.Intn(2) == 0:
		return op(api.OpAnd+r.Intn(2), sub(kind), sub(kind))
	case levels > 2 && r.Intn(5) == 0:
		return op(api.OpNot, sub(kind))
	}
	return op(api.OpEq+r.Intn(4), sub(expression.Int), sub(expression.Int))
}

// overflows is an Int expression that overflows where a variable has a value.
func overflows(index, value int) expr {
	return op(api.OpIte, op(api.OpEq, vari(index), num(value)), op(api.OpMul, num(65536), num(65536)), num(0))
}

func drawBools(r *rand.Rand, n int) bools {
	l, few := bools{}, 1+r.Intn(4)
	flip := r.Intn(2) == 0
	for range n {
		l = append(l, (r.Intn(few) == 0) != flip)
	}
	return l
}

func repeated(value bool, n int) bools { return slices.Repeat(bools{value}, n) }

// domain are all values, which the tests take from package expression.
func domain(t *testing.T, l []api.Variable) []ints {
	t.Helper()
	all, e := expression.All(l)
	if e != api.OK {
		t.Fatal(e)
	}
	return all
}

// tableOf is the table of an expression, or false if it overflows somewhere.
func tableOf(l []api.Variable, x expr) (bools, bool) {
	all, _ := expression.All(l)
	var table bools
	for _, values := range all {
		value, e := expression.Evaluate(x, values)
		if e != api.OK {
			return nil, false
		}
		table = append(table, value == 1)
	}
	return table, true
}

// badVariables are lists with the first errors of all functions.
func badVariables() map[api.Errno][][]api.Variable {
	return map[api.Errno][][]api.Variable{
		api.ErrLimit:     {make([]api.Variable, 17), bits(13), ranges(4096)},
		api.ErrName:      {{{Name: "1"}}},
		api.ErrDuplicate: {{{Name: "a"}, {Name: "a", Low: 1}}},
		api.ErrRange:     {{{Name: "a", Initial: 1}}},
		api.ErrOrder:     {{{Name: "a", Low: 1}}},
	}
}

// badGuards are guards over x and y of the example, with their errors; the last error is ErrOverflow.
func badGuards() map[api.Errno]expr {
	return map[api.Errno]expr{
		api.ErrKind:     {Op: 77},
		api.ErrSize:     op(api.OpNot),
		api.ErrForm:     {Op: api.OpConst, Index: 1},
		api.ErrRange:    op(api.OpEq, vari(2), num(0)),
		api.ErrLimit:    {Op: api.OpAnd, Args: []expr{op(api.OpNot, op(api.OpNot, op(api.OpNot, op(api.OpNot, op(api.OpNot, op(api.OpNot, op(api.OpEq, num(0), num(0)))))))), expression.True()}},
		api.ErrType:     op(api.OpAdd, num(1), overflows(0, 3)),
		api.ErrOverflow: op(api.OpEq, overflows(0, 3), num(0)),
	}
}

// badBoxes are lists of boxes over x and y of the example, with their errors.
func badBoxes() []struct {
	l boxes
	e api.Errno
} {
	good := guard.Box{Low: ints{0, 0}, High: ints{3, 1}}
	return []struct {
		l boxes
		e api.Errno
	}{
		{boxes{{}}, api.ErrSize},
		{boxes{{ints{0}, ints{3, 1}}}, api.ErrSize},
		{boxes{{ints{0, 0}, ints{3}}}, api.ErrSize},
		{boxes{{ints{0, 0, 0}, ints{3, 1}}}, api.ErrSize},
		{boxes{{ints{0, 0}, ints{3, 1, 0}}}, api.ErrSize},
		{boxes{{ints{-1, 0}, ints{3, 1, 0}}}, api.ErrSize},
		{boxes{{ints{-1, 0}, ints{3, 1}}}, api.ErrRange},
		{boxes{{ints{0, -1}, ints{3, 1}}}, api.ErrRange},
		{boxes{{ints{0, 0}, ints{4, 1}}}, api.ErrRange},
		{boxes{{ints{0, 0}, ints{3, 2}}}, api.ErrRange},
		{boxes{{ints{2, 0}, ints{1, 1}}}, api.ErrRange},
		{boxes{{ints{0, 1}, ints{3, 0}}}, api.ErrRange},
		{boxes{{ints{4, 0}, ints{4, 1}}}, api.ErrRange},
		{boxes{{ints{-1, 0}, ints{-1, 1}}}, api.ErrRange},
		{boxes{good, {ints{2, 0}, ints{1, 1}}, {}}, api.ErrRange},
		{boxes{good, good, {}, {ints{2, 0}, ints{1, 1}}}, api.ErrSize},
	}
}

// P15.1
func TestTable(t *testing.T) {
	r := rand.New(rand.NewSource(1))
	for range 1500 {
		l := drawVariables(r, 3, 4)
		x := drawExpr(r, l, expression.Bool, 5)
		if _, e := expression.Check(x, len(l)); e != api.OK {
			continue
		}
		want, ok := tableOf(l, x)
		if !ok {
			t.Fatalf("%v overflows", x)
		}
		if table, e := guard.Table(l, x); e != api.OK || !slices.Equal(table, want) {
			t.Fatalf("Table(%v, %v) = %v, %d, not %v", l, x, table, e, want)
		}
	}
	for _, yes := range []bool{true, false} {
		x := expression.False()
		if yes {
			x = expression.True()
		}
		if table, e := guard.Table(nil, x); e != api.OK || !slices.Equal(table, bools{yes}) {
			t.Errorf("Table = %v, %d", table, e)
		}
		if table, e := guard.Table(bits(12), x); e != api.OK || !slices.Equal(table, repeated(yes, 4096)) {
			t.Errorf("Table has %d, %d", len(table), e)
		}
	}
}

// P15.1: the errors in their order. A guard that overflows for one element is none.
func TestErrorsOfTable(t *testing.T) {
	for want, x := range badGuards() {
		if table, e := guard.Table(example(), x); table != nil || e != want {
			t.Errorf("Table = %v, %d, not %d", table, e, want)
		}
	}
	for want, lists := range badVariables() {
		for _, l := range lists {
			if table, e := guard.Table(l, expr{Op: 77}); table != nil || e != want {
				t.Errorf("Table = %v, %d, not %d", table, e, want)
			}
		}
	}
	for value := -1; value <= 4; value++ {
		want := api.OK
		if value >= 0 && value <= 3 {
			want = api.ErrOverflow
		}
		if _, e := guard.Table(example(), op(api.OpEq, overflows(0, value), num(0))); e != want {
			t.Errorf("Table of what overflows for %d: %d, not %d", value, e, want)
		}
	}
}

// P15.5
func TestImpliesAndEquivalent(t *testing.T) {
	r := rand.New(rand.NewSource(2))
	holding := map[bool]int{}
	for range 4000 {
		l := drawVariables(r, 3, 4)
		x, y := drawExpr(r, l, expression.Bool, 3), drawExpr(r, l, expression.Bool, 3)
		all := domain(t, l)
		a, _ := tableOf(l, x)
		b, _ := tableOf(l, y)
		for _, c := range []struct {
			f  func([]api.Variable, expr, expr) ([]int, bool, api.Errno)
			is func(a, b bool) bool
		}{
			{guard.Implies, func(a, b bool) bool { return b || !a }},
			{guard.Equivalent, func(a, b bool) bool { return a == b }},
		} {
			var want ints
			first := true
			for i, values := range all {
				if first && !c.is(a[i], b[i]) {
					want, first = values, false
				}
			}
			values, holds, e := c.f(l, x, y)
			if e != api.OK || holds != first || !slices.Equal(values, want) {
				t.Fatalf("%v and %v over %v: %v, %v, %d, not %v, %v", x, y, l, values, holds, e, want, first)
			}
			holding[holds]++
		}
	}
	if holding[true] < 500 || holding[false] < 500 {
		t.Errorf("%v", holding)
	}
	if values, holds, e := guard.Implies(nil, expression.True(), expression.False()); len(values) != 0 || holds || e != api.OK {
		t.Errorf("Implies = %v, %v, %d", values, holds, e)
	}
	if values, holds, e := guard.Implies(nil, expression.False(), expression.True()); len(values) != 0 || !holds || e != api.OK {
		t.Errorf("Implies = %v, %v, %d", values, holds, e)
	}
	if values, holds, e := guard.Equivalent(nil, expression.False(), expression.True()); len(values) != 0 || holds || e != api.OK {
		t.Errorf("Equivalent = %v, %v, %d", values, holds, e)
	}
}

// P15.3, P15.5: the errors of functions with two guards: first those of the first one, also ErrOverflow.
func TestErrorsOfTwoGuards(t *testing.T) {
	functions := []func([]api.Variable, expr, expr) ([]int, bool, api.Errno){
		guard.Implies,
		guard.Equivalent,
		func(l []api.Variable, x, y expr) ([]int, bool, api.Errno) {
			z, e := guard.Simplify(l, x, y)
			return nil, !reflect.DeepEqual(z, expr{}), e
		},
	}
	for i, f := range functions {
		check := func(l []api.Variable, x, y expr, want api.Errno) {
			if values, holds, e := f(l, x, y); values != nil || holds || e != want {
				t.Errorf("%d: %v, %v, %d, not %d", i, values, holds, e, want)
			}
		}
		for want, x := range badGuards() {
			check(example(), expression.True(), x, want)
			for _, y := range badGuards() {
				check(example(), x, y, want)
			}
		}
		for want, lists := range badVariables() {
			for _, l := range lists {
				check(l, expr{Op: 77}, expr{Op: 77}, want)
			}
		}
	}
}

// updatedTo is the place in the domain to which updates lead, or false if they are not possible.
func updatedTo(all []ints, updates []api.Update, values ints) (int, bool) {
	next := slices.Clone(values)
	for _, u := range updates {
		value, e := expression.Evaluate(u.Value, values)
		if e != api.OK {
			return 0, false
		}
		next[u.Variable] = value
	}
	place := slices.IndexFunc(all, func(l ints) bool { return slices.Equal(l, next) })
	return place, place >= 0
}

// drawUpdates draws updates of some of the variables.
func drawUpdates(r *rand.Rand, l []api.Variable) []api.Update {
	var updates []api.Update
	for i, v := range l {
		switch r.Intn(6) {
		case 0:
			updates = append(updates, api.Update{Variable: i, Value: vari(r.Intn(len(l)))})
		case 1:
			updates = append(updates, api.Update{Variable: i, Value: drawExpr(r, l, expression.Int, 3)})
		case 2:
			updates = append(updates, api.Update{Variable: i, Value: op(api.OpSub, num(v.Low+v.High), vari(i))})
		case 3:
			updates = append(updates, api.Update{Variable: i, Value: op(api.OpAdd, vari(i), overflows(r.Intn(len(l)), r.Intn(3)))})
		}
	}
	return updates
}

// P15.6, and what P15.7 says of weakest preconditions.
func TestWeakest(t *testing.T) {
	r := rand.New(rand.NewSource(3))
	set := map[bool]int{}
	for range 2000 {
		l := drawVariables(r, 4, 4)
		all, updates := domain(t, l), drawUpdates(r, l)
		first, second := drawBools(r, len(all)), drawBools(r, len(all))
		var both, possible bools
		for i, values := range all {
			both = append(both, first[i] && second[i])
			_, is := updatedTo(all, updates, values)
			possible = append(possible, is)
		}
		weakest := func(table bools) bools {
			w, e := guard.Weakest(l, updates, table)
			if e != api.OK || len(w) != len(all) {
				t.Fatalf("Weakest(%v, %v) = %v, %d", l, updates, w, e)
			}
			return w
		}
		a, b, c := weakest(first), weakest(second), weakest(both)
		for i, values := range all {
			place, is := updatedTo(all, updates, values)
			if a[i] != (is && first[place]) {
				t.Fatalf("Weakest(%v, %v, %v) = %v", l, updates, first, a)
			}
			if c[i] != (a[i] && b[i]) {
				t.Fatalf("Weakest of common elements (%v, %v)", l, updates)
			}
			set[a[i]]++
		}
		if w := weakest(repeated(true, len(all))); !slices.Equal(w, possible) {
			t.Fatalf("Weakest of everything (%v, %v) = %v, not %v", l, updates, w, possible)
		}
		if w, e := guard.Weakest(l, nil, first); e != api.OK || !slices.Equal(w, first) {
			t.Fatalf("Weakest without updates = %v, %d, not %v", w, e, first)
		}
	}
	if set[true] < 1000 || set[false] < 1000 {
		t.Errorf("%v", set)
	}
}

// P15.6: all values are evaluated for the old values, so two variables can be exchanged.
func TestWeakestExchanges(t *testing.T) {
	l := ranges(2, 2)
	updates := []api.Update{{Variable: 0, Value: vari(1)}, {Variable: 1, Value: vari(0)}}
	table := make(bools, 9)
	table[1*3+2] = true // 1, 2
	w, e := guard.Weakest(l, updates, table)
	want := make(bools, 9)
	want[2*3+1] = true
	if e != api.OK || !slices.Equal(w, want) {
		t.Errorf("Weakest = %v, %d", w, e)
	}
}

// P15.6: the errors in their order.
func TestErrorsOfWeakest(t *testing.T) {
	l := example()
	good := api.Update{Variable: 0, Value: num(1)}
	type updates = []api.Update
	for i, c := range []struct {
		u updates
		n int
		e api.Errno
	}{
		{nil, 8, api.OK},
		{updates{}, 8, api.OK},
		{nil, 7, api.ErrSize},
		{nil, 9, api.ErrSize},
		{nil, 0, api.ErrSize},
		{updates{good}, 8, api.OK},
		{updates{good}, 7, api.ErrSize},
		{updates{good, {Variable: 1, Value: num(99)}}, 8, api.OK},
		{updates{{Variable: -1, Value: num(1)}}, 8, api.ErrRange},
		{updates{{Variable: 2, Value: num(1)}}, 8, api.ErrRange},
		{updates{{Variable: 2, Value: expr{Op: 77}}}, 1, api.ErrRange},
		{updates{good, good}, 8, api.ErrOrder},
		{updates{{Variable: 1, Value: num(0)}, good}, 8, api.ErrOrder},
		{updates{good, {Variable: 0, Value: expr{Op: 77}}}, 1, api.ErrOrder},
		{updates{good, {Variable: -1, Value: expr{Op: 77}}}, 1, api.ErrRange},
		{updates{{Variable: 0, Value: expr{Op: 77}}, good}, 1, api.ErrKind},
		{updates{{Variable: 0, Value: vari(2)}}, 1, api.ErrRange},
		{updates{{Variable: 0, Value: op(api.OpNot)}}, 1, api.ErrSize},
		{updates{{Variable: 0, Value: op(api.OpNot, num(1))}}, 1, api.ErrType},
		{updates{{Variable: 0, Value: expression.True()}}, 1, api.ErrType},
		{updates{{Variable: 0, Value: expression.True()}, {Variable: 5}}, 1, api.ErrType},
		{updates{good, {Variable: 1, Value: expression.True()}}, 8, api.ErrType},
		{updates{good, {Variable: 1, Value: num(0)}, {Variable: 2}}, 8, api.ErrRange},
		{updates{{Variable: 0, Value: op(api.OpMul, num(65536), num(65536))}}, 8, api.OK},
	} {
		w, e := guard.Weakest(l, c.u, make(bools, c.n))
		if e != c.e || e != api.OK && w != nil || e == api.OK && len(w) != 8 {
			t.Errorf("%d: Weakest = %v, %d, not %d", i, w, e, c.e)
		}
	}
	for want, lists := range badVariables() {
		for _, l := range lists {
			if w, e := guard.Weakest(l, updates{{Variable: -1}}, nil); w != nil || e != want {
				t.Errorf("Weakest = %v, %d, not %d", w, e, want)
			}
		}
	}
	if w, e := guard.Weakest(nil, nil, bools{true}); !slices.Equal(w, bools{true}) || e != api.OK {
		t.Errorf("Weakest = %v, %d", w, e)
	}
	if w, e := guard.Weakest(nil, updates{good}, bools{true}); w != nil || e != api.ErrRange {
		t.Errorf("Weakest = %v, %d", w, e)
	}
}

// P15.6: what overflows, or leaves the range of its variable, is not possible; other variables do not matter.
func TestPossibleUpdates(t *testing.T) {
	l := []api.Variable{{Name: "n", Low: -2, High: 2}}
	for i, c := range []struct {
		value expr
		want  bools
	}{
		{op(api.OpAdd, vari(0), num(1)), bools{true, true, true, true, false}},
		{op(api.OpSub, vari(0), num(1)), bools{false, true, true, true, true}},
		{op(api.OpMul, vari(0), num(2)), bools{false, true, true, true, false}},
		{num(2), bools{true, true, true, true, true}},
		{num(3), bools{false, false, false, false, false}},
		{overflows(0, 1), bools{true, true, true, false, true}},
	} {
		w, e := guard.Weakest(l, []api.Update{{Variable: 0, Value: c.value}}, repeated(true, 5))
		if e != api.OK || !slices.Equal(w, c.want) {
			t.Errorf("%d: Weakest = %v, %d, not %v", i, w, e, c.want)
		}
	}
}

// The chapter's examples.
func TestExamples(t *testing.T) {
	l := example()
	x := op(api.OpOr, op(api.OpLt, vari(0), num(2)), op(api.OpEq, vari(1), num(1)))
	table, e := guard.Table(l, x)
	if e != api.OK {
		t.Fatal(e)
	}
	b, e := guard.Boxes(l, table, repeated(true, 8))
	if want := (boxes{{ints{0, 0}, ints{1, 1}}, {ints{0, 1}, ints{3, 1}}}); e != api.OK || !reflect.DeepEqual(b, want) {
		t.Errorf("Boxes = %v, %d", b, e)
	}
	if text, e := guard.Text(l, b); text != "x <= 1 or y = 1" || e != api.OK {
		t.Errorf("Text = %q, %d", text, e)
	}
	if n, e := guard.Literals(l, b); n != 2 || e != api.OK {
		t.Errorf("Literals = %d, %d", n, e)
	}
	care, _ := guard.Table(l, op(api.OpEq, vari(1), num(1)))
	b, e = guard.Boxes(l, table, care)
	if want := (boxes{{ints{0, 0}, ints{3, 1}}}); e != api.OK || !reflect.DeepEqual(b, want) {
		t.Errorf("Boxes = %v, %d", b, e)
	}
	if text, e := guard.Text(l, b); text != "true" || e != api.OK {
		t.Errorf("Text = %q, %d", text, e)
	}
	small, larger := op(api.OpLt, vari(0), num(2)), op(api.OpLt, vari(0), num(3))
	if values, holds, e := guard.Implies(l, small, larger); len(values) != 0 || !holds || e != api.OK {
		t.Errorf("Implies = %v, %v, %d", values, holds, e)
	}
	if values, holds, e := guard.Implies(l, larger, small); !slices.Equal(values, ints{2, 0}) || holds || e != api.OK {
		t.Errorf("Implies = %v, %v, %d", values, holds, e)
	}
	one := l[:1]
	table, _ = guard.Table(one, small)
	w, e := guard.Weakest(one, []api.Update{{Variable: 0, Value: op(api.OpAdd, vari(0), num(1))}}, table)
	if e != api.OK || !slices.Equal(w, bools{true, false, false, false}) {
		t.Errorf("Weakest = %v, %d", w, e)
	}
}

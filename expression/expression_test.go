package expression_test

import (
	"math"
	"math/rand"
	"reflect"
	"slices"
	"testing"

	"overseer/api"
	"overseer/expression"
)

type (
	ints = []int
	expr = api.Expr
)

func num(value int) expr { return expr{Op: api.OpConst, Value: value} }

func vari(index int) expr { return expr{Op: api.OpVar, Index: index} }

func op(o int, arguments ...expr) expr { return expr{Op: o, Args: arguments} }

// the words of the chapter's table: how many arguments an Op has, of which types they are, and of which it is. OpIte stands there with a Bool and two Int.
var table = []struct {
	op, kind int
	takes    ints
}{
	{api.OpConst, expression.Int, nil},
	{api.OpVar, expression.Int, nil},
	{api.OpAdd, expression.Int, ints{expression.Int, expression.Int}},
	{api.OpSub, expression.Int, ints{expression.Int, expression.Int}},
	{api.OpMul, expression.Int, ints{expression.Int, expression.Int}},
	{api.OpNeg, expression.Int, ints{expression.Int}},
	{api.OpEq, expression.Bool, ints{expression.Int, expression.Int}},
	{api.OpNe, expression.Bool, ints{expression.Int, expression.Int}},
	{api.OpLt, expression.Bool, ints{expression.Int, expression.Int}},
	{api.OpLe, expression.Bool, ints{expression.Int, expression.Int}},
	{api.OpNot, expression.Bool, ints{expression.Bool}},
	{api.OpAnd, expression.Bool, ints{expression.Bool, expression.Bool}},
	{api.OpOr, expression.Bool, ints{expression.Bool, expression.Bool}},
	{api.OpIte, expression.Int, ints{expression.Bool, expression.Int, expression.Int}},
}

// draw draws an expression of a type over n variables, of at most so many levels, with constants of at most a magnitude.
func draw(r *rand.Rand, kind, levels, n, magnitude int) expr {
	if kind == expression.Int && (levels == 1 || r.Intn(4) == 0) {
		if n > 0 && r.Intn(2) == 0 {
			return vari(r.Intn(n))
		}
		return num(r.Intn(2*magnitude+1) - magnitude)
	}
	if kind == expression.Bool && levels <= 2 {
		return op(api.OpEq+r.Intn(4), draw(r, expression.Int, 1, n, magnitude), draw(r, expression.Int, 1, n, magnitude))
	}
	for {
		row := table[r.Intn(len(table))]
		if row.op == api.OpIte {
			return op(api.OpIte, draw(r, expression.Bool, levels-1, n, magnitude), draw(r, kind, levels-1, n, magnitude), draw(r, kind, levels-1, n, magnitude))
		}
		if row.kind != kind || len(row.takes) == 0 {
			continue
		}
		x := expr{Op: row.op}
		for _, k := range row.takes {
			x.Args = append(x.Args, draw(r, k, levels-1, n, magnitude))
		}
		return x
	}
}

// drawSound draws an expression that Check accepts.
func drawSound(r *rand.Rand, kind, levels, n, magnitude int) expr {
	for {
		x := draw(r, kind, levels, n, magnitude)
		if nodesOf(x) <= expression.MaxNodes {
			return x
		}
	}
}

func nodesOf(x expr) int {
	n := 1
	for _, a := range x.Args {
		n += nodesOf(a)
	}
	return n
}

// copyOf copies an expression with all its arguments.
func copyOf(x expr) expr {
	args := x.Args
	x.Args = nil
	for _, a := range args {
		x.Args = append(x.Args, copyOf(a))
	}
	return x
}

// at returns the expressions of an expression, in preorder, so that they can be changed, with their levels.
func at(x *expr, level int) (all []*expr, levels ints) {
	all, levels = []*expr{x}, ints{level}
	for i := range x.Args {
		more, deeper := at(&x.Args[i], level+1)
		all, levels = append(all, more...), append(levels, deeper...)
	}
	return all, levels
}

// wholesome are variables a from -2 to 3, b from 0 to 1, and d that is 2.
func wholesome() []api.Variable {
	return []api.Variable{{Name: "a", Low: -2, High: 3, Initial: 0}, {Name: "b", Low: 0, High: 1, Initial: 1}, {Name: "d", Low: 2, High: 2, Initial: 2}}
}

// same reports whether two expressions are equal, nil and empty lists too, without the package's help.
func same(x, y expr) bool {
	return reflect.DeepEqual(copyOf(x), copyOf(y))
}

// cyclic is an OpAnd, both of whose arguments are itself.
func cyclic() expr {
	x := op(api.OpAnd, expr{}, expr{})
	x.Args[0], x.Args[1] = x, x
	return x
}

// P14.1, P14.2, .. : the errors of expressions and of variables that all functions return.
func badVariables() map[api.Errno][]api.Variable {
	many := make([]api.Variable, expression.MaxVariables+1)
	return map[api.Errno][]api.Variable{
		api.ErrLimit:     many,
		api.ErrName:      {{Name: "1"}},
		api.ErrDuplicate: {{Name: "a"}, {Name: "a"}},
		api.ErrRange:     {{Name: "a", Low: -api.MaxValue - 1}},
		api.ErrOrder:     {{Name: "a", Low: 1}},
	}
}

// badExpressions have their errors over any number of variables.
func badExpressions() map[api.Errno]expr {
	return map[api.Errno]expr{
		api.ErrLimit: cyclic(),
		api.ErrKind:  {Op: 14},
		api.ErrSize:  op(api.OpNot),
		api.ErrForm:  {Op: api.OpConst, Index: 1},
		api.ErrRange: num(api.MaxValue + 1),
		api.ErrType:  op(api.OpNot, num(0)),
	}
}

// P14.2: the type of each Op, for all types of its arguments.
func TestTypes(t *testing.T) {
	kinds := map[int]expr{expression.Int: num(1), expression.Bool: expression.True()}
	for _, row := range table {
		for choice := range 1 << len(row.takes) {
			x, right, last := expr{Op: row.op}, true, 0
			for i, k := range row.takes {
				given := 1 + choice>>i&1
				right = right && given == k
				x.Args = append(x.Args, kinds[given])
				last = given
			}
			want := row.kind
			if row.op == api.OpIte {
				right = choice&1 == 1 && choice>>1&1 == choice>>2&1
				want = last
			}
			e := api.OK
			if !right {
				want, e = 0, api.ErrType
			}
			if kind, f := expression.Check(x, 1); kind != want || f != e {
				t.Errorf("Check(%v) = %d, %d, not %d, %d", x, kind, f, want, e)
			}
		}
	}
}

// P14.2: how many arguments each Op has.
func TestSizes(t *testing.T) {
	for _, row := range table {
		for n := range 6 {
			x := expr{Op: row.op}
			for range n {
				x.Args = append(x.Args, expr{Op: -1})
			}
			want := api.ErrSize
			switch {
			case n == len(row.takes) && n == 0:
				want = api.OK
			case n == len(row.takes):
				want = api.ErrKind
			}
			if _, e := expression.Check(x, 1); e != want {
				t.Errorf("Check(%v) = %d, not %d", x, e, want)
			}
		}
	}
}

// errorOf is the error of an expression over n variables, by the words of the chapter.
func errorOf(x expr, n int) api.Errno {
	if n < 0 || n > expression.MaxVariables {
		return api.ErrRange
	}
	all, levels := at(&x, 1)
	for i, y := range all {
		switch {
		case i >= 64, levels[i] > 8:
			return api.ErrLimit
		case y.Op < 0 || y.Op > 13:
			return api.ErrKind
		case len(y.Args) != len(table[y.Op].takes):
			return api.ErrSize
		case y.Op != api.OpConst && y.Value != 0, y.Op != api.OpVar && y.Index != 0:
			return api.ErrForm
		case y.Value < -65536 || y.Value > 65536, y.Op == api.OpVar && (y.Index < 0 || y.Index >= n):
			return api.ErrRange
		}
	}
	if kindOf(x) == 0 {
		return api.ErrType
	}
	return api.OK
}

// kindOf is the type of a well-formed expression, or 0.
func kindOf(x expr) int {
	takes, kind := table[x.Op].takes, table[x.Op].kind
	if x.Op == api.OpIte {
		kind = kindOf(x.Args[1])
		takes = ints{expression.Bool, kind, kind}
	}
	for i, a := range x.Args {
		if k := kindOf(a); k == 0 || k != takes[i] {
			return 0
		}
	}
	return kind
}

// P14.2: expressions of which something was changed, compared with the words of the chapter.
func TestCheck(t *testing.T) {
	r := rand.New(rand.NewSource(1))
	counts := map[api.Errno]int{}
	for range 30000 {
		n := r.Intn(4)
		x := draw(r, 1+r.Intn(2), 1+r.Intn(9), n, 5)
		all, _ := at(&x, 1)
		for range r.Intn(3) {
			y := all[r.Intn(len(all))]
			switch r.Intn(6) {
			case 0:
				y.Op = r.Intn(17) - 1
			case 1:
				y.Value = []int{1, -1, 65536, -65536, 65537, -65537, math.MaxInt, math.MinInt}[r.Intn(8)]
			case 2:
				y.Index = []int{1, -1, 2, 3, 16, math.MaxInt, math.MinInt}[r.Intn(7)]
			case 3:
				y.Args = slices.Concat(y.Args, []expr{{}})
			case 4:
				y.Args = slices.Clone(y.Args[:len(y.Args)/2])
			case 5:
				*y = draw(r, 1+r.Intn(2), 2, n, 5)
			}
			all, _ = at(&x, 1)
		}
		want := errorOf(x, n)
		counts[want]++
		kind, e := expression.Check(x, n)
		if e != want || e == api.OK && kind != kindOf(x) || e != api.OK && kind != 0 {
			t.Fatalf("Check(%v, %d) = %d, %d, not %d", x, n, kind, e, want)
		}
	}
	for _, e := range []api.Errno{api.OK, api.ErrLimit, api.ErrKind, api.ErrSize, api.ErrForm, api.ErrRange, api.ErrType} {
		if counts[e] < 300 {
			t.Errorf("only %d expressions with the error %d", counts[e], e)
		}
	}
}

// P14.2: the error of the first of several expressions, and the first of several errors.
func TestOrderOfErrors(t *testing.T) {
	kind, size, form, small := expr{Op: 99}, op(api.OpAdd), expr{Op: api.OpVar, Value: 1}, num(math.MinInt)
	for i, c := range []struct {
		x expr
		n int
		e api.Errno
	}{
		{expr{Op: 99}, -1, api.ErrRange},
		{expr{Op: 99}, 17, api.ErrRange},
		{expr{Op: 99}, 0, api.ErrKind},
		{expr{Op: -1}, 0, api.ErrKind},
		{expr{Op: 14, Value: 3, Index: 3, Args: []expr{{}}}, 0, api.ErrKind},
		{expr{Op: math.MaxInt}, 0, api.ErrKind},
		{expr{Op: math.MinInt}, 0, api.ErrKind},
		{expr{Op: api.OpConst, Value: 1 << 20, Index: 3, Args: []expr{{}}}, 0, api.ErrSize},
		{expr{Op: api.OpConst, Value: 1 << 20, Index: 3}, 0, api.ErrForm},
		{expr{Op: api.OpVar, Value: 1 << 20, Index: 3}, 0, api.ErrForm},
		{expr{Op: api.OpVar, Value: 1}, 1, api.ErrForm},
		{expr{Op: api.OpNot, Value: 1, Args: []expr{expression.True()}}, 1, api.ErrForm},
		{expr{Op: api.OpNot, Index: -1, Args: []expr{expression.True()}}, 1, api.ErrForm},
		{expr{Op: api.OpNot, Index: 1, Args: []expr{kind}}, 1, api.ErrForm},
		{vari(0), 0, api.ErrRange},
		{vari(1), 1, api.ErrRange},
		{vari(-1), 1, api.ErrRange},
		{vari(16), 16, api.ErrRange},
		{vari(15), 16, api.OK},
		{num(65536), 0, api.OK},
		{num(-65536), 0, api.OK},
		{num(65537), 0, api.ErrRange},
		{num(-65537), 0, api.ErrRange},
		{op(api.OpAnd, kind, size), 0, api.ErrKind},
		{op(api.OpAnd, size, kind), 0, api.ErrSize},
		{op(api.OpAnd, form, kind), 0, api.ErrForm},
		{op(api.OpAnd, small, form), 0, api.ErrRange},
		{op(api.OpAnd, op(api.OpAnd, num(1), small), kind), 0, api.ErrRange},
		{op(api.OpAnd, num(1), kind), 0, api.ErrKind},
		{op(api.OpAdd, op(api.OpNot, num(1)), op(api.OpNot, small)), 0, api.ErrRange},
		{op(api.OpNot, num(1)), 0, api.ErrType},
		{cyclic(), 0, api.ErrLimit},
		{op(api.OpOr, kind, cyclic()), 0, api.ErrKind},
		{op(api.OpOr, cyclic(), kind), 0, api.ErrLimit},
		{expr{Op: api.OpAnd, Args: make([]expr, 1<<20)}, 0, api.ErrSize},
	} {
		if kind, e := expression.Check(c.x, c.n); kind == 0 != (e != api.OK) || e != c.e {
			t.Errorf("%d: Check = %d, %d, not %d", i, kind, e, c.e)
		}
	}
}

// negatives is a number with so many OpNeg around it.
func negatives(n int, x expr) expr {
	for range n {
		x = op(api.OpNeg, x)
	}
	return x
}

// sum is a sum of n numbers with few levels.
func sum(n int) expr {
	if n == 1 {
		return num(1)
	}
	return op(api.OpAdd, sum(n/2), sum(n-n/2))
}

// P14.2: the limits of levels and of expressions.
func TestLimits(t *testing.T) {
	bad := expr{Op: 99}
	full := op(api.OpNeg, sum(32)) // 64 expressions
	for i, c := range []struct {
		x expr
		e api.Errno
	}{
		{negatives(7, num(1)), api.OK},
		{negatives(8, num(1)), api.ErrLimit},
		{negatives(7, bad), api.ErrKind},
		{negatives(8, bad), api.ErrLimit},
		{negatives(7, op(api.OpNeg)), api.ErrSize},
		{negatives(70, num(1)), api.ErrLimit},
		{op(api.OpAdd, negatives(6, num(1)), negatives(7, num(1))), api.ErrLimit},
		{op(api.OpAdd, negatives(7, num(1)), bad), api.ErrLimit},
		{op(api.OpAdd, bad, negatives(7, num(1))), api.ErrKind},
		{full, api.OK},
		{sum(32), api.OK},
		{sum(33), api.ErrLimit},
		{op(api.OpEq, sum(31), num(0)), api.OK},
		{op(api.OpEq, sum(31), op(api.OpNeg, num(0))), api.OK},
		{op(api.OpEq, sum(31), op(api.OpNeg, op(api.OpNeg, num(0)))), api.ErrLimit},
		{op(api.OpEq, sum(31), bad), api.ErrKind},
		{op(api.OpEq, op(api.OpNeg, sum(31)), bad), api.ErrKind},
		{op(api.OpEq, sum(32), bad), api.ErrLimit},
		{op(api.OpNot, full), api.ErrLimit},
	} {
		if _, e := expression.Check(c.x, 0); e != c.e {
			t.Errorf("%d: Check = %d, not %d (%d expressions)", i, e, c.e, nodesOf(c.x))
		}
	}
	if n := nodesOf(full); n != 64 {
		t.Errorf("%d expressions", n)
	}
}

// P14.2
func TestEqual(t *testing.T) {
	r := rand.New(rand.NewSource(2))
	for range 3000 {
		x := draw(r, 1+r.Intn(2), 1+r.Intn(6), 3, 2)
		y := copyOf(x)
		if !expression.Equal(x, y) || !expression.Equal(x, x) {
			t.Fatalf("Equal(%v)", x)
		}
		all, _ := at(&y, 1)
		z := all[r.Intn(len(all))]
		switch r.Intn(5) {
		case 0:
			z.Op += 1 - 2*r.Intn(2)
		case 1:
			z.Value++
		case 2:
			z.Index--
		case 3:
			z.Args = slices.Concat(z.Args, []expr{{}})
		case 4:
			if len(z.Args) == 0 {
				continue
			}
			z.Args = z.Args[:len(z.Args)-1]
		}
		if expression.Equal(x, y) || expression.Equal(y, x) {
			t.Fatalf("Equal(%v, %v)", x, y)
		}
		other := draw(r, 1+r.Intn(2), 2, 1, 1)
		mine := draw(r, 1+r.Intn(2), 2, 1, 1)
		if expression.Equal(mine, other) != same(mine, other) {
			t.Fatalf("Equal(%v, %v)", mine, other)
		}
	}
	if !expression.Equal(expr{}, expr{Args: []expr{}}) || !expression.Equal(op(99, expr{Args: []expr{}}), op(99, expr{})) {
		t.Error("nil and empty lists are equal")
	}
	if expression.Equal(op(api.OpSub, num(1), num(2)), op(api.OpSub, num(2), num(1))) || expression.Equal(op(api.OpAdd, vari(0), vari(0)), op(api.OpAdd, vari(0), vari(1))) {
		t.Error("the arguments are compared in order")
	}
}

// P1: expressions of any depth, with arguments in common, or that contain themselves.
func TestEqualTerminates(t *testing.T) {
	deep := func(x expr) expr { return negatives(1<<16, x) }
	if !expression.Equal(deep(num(1)), deep(num(1))) || expression.Equal(deep(num(1)), deep(num(2))) {
		t.Error("Equal of deep expressions")
	}
	shared := func(x expr) expr {
		for range 200 {
			x = op(api.OpAnd, x, x)
		}
		return x
	}
	if !expression.Equal(shared(num(1)), shared(num(1))) || expression.Equal(shared(num(1)), shared(num(2))) {
		t.Error("Equal of expressions with arguments in common")
	}
	x, y := cyclic(), cyclic()
	if !expression.Equal(x, x) || !expression.Equal(x, y) || !expression.Equal(x, op(api.OpAnd, y, x)) {
		t.Error("Equal of expressions that contain themselves")
	}
	y.Args[1] = op(api.OpAnd, y, num(1))
	if expression.Equal(x, y) || expression.Equal(y, x) {
		t.Error("Equal of different expressions that contain themselves")
	}
}

// P14.6
func TestTrueAndFalse(t *testing.T) {
	if x := expression.True(); !same(x, op(api.OpEq, num(0), num(0))) {
		t.Errorf("True = %v", x)
	}
	if x := expression.False(); !same(x, op(api.OpNe, num(0), num(0))) {
		t.Errorf("False = %v", x)
	}
	x, y := expression.True(), expression.False()
	x.Args[0].Value, x.Args[1].Value, y.Args[0].Value = 1, 2, 3
	if !same(expression.True(), op(api.OpEq, num(0), num(0))) || !same(expression.False(), op(api.OpNe, num(0), num(0))) {
		t.Error("the results are new")
	}
}

// P14.6
func TestUses(t *testing.T) {
	r := rand.New(rand.NewSource(3))
	for range 3000 {
		x := drawSound(r, 1+r.Intn(2), 1+r.Intn(6), 1+r.Intn(16), 2)
		var want ints
		all, _ := at(&x, 1)
		for _, y := range all {
			if y.Op == api.OpVar {
				want = append(want, y.Index)
			}
		}
		slices.Sort(want)
		if uses, e := expression.Uses(x); e != api.OK || !slices.Equal(uses, slices.Compact(want)) {
			t.Fatalf("Uses(%v) = %v, %d", x, uses, e)
		}
	}
	if uses, e := expression.Uses(op(api.OpMul, vari(15), op(api.OpAdd, vari(0), vari(15)))); e != api.OK || !slices.Equal(uses, ints{0, 15}) {
		t.Errorf("Uses = %v, %d", uses, e)
	}
	if uses, e := expression.Uses(vari(16)); uses != nil || e != api.ErrRange {
		t.Errorf("Uses = %v, %d", uses, e)
	}
	for want, x := range badExpressions() {
		if uses, e := expression.Uses(x); uses != nil || e != want {
			t.Errorf("Uses = %v, %d, not %d", uses, e, want)
		}
	}
}

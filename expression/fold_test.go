package expression_test

import (
	"math"
	"math/rand"
	"slices"
	"testing"

	"overseer/api"
	"overseer/expression"
)

// replaced is an expression with another one in place of a variable.
func replaced(x expr, index int, by expr) expr {
	if x.Op == api.OpVar && x.Index == index {
		return copyOf(by)
	}
	args := x.Args
	x.Args = nil
	for _, a := range args {
		x.Args = append(x.Args, replaced(a, index, by))
	}
	return x
}

// P14.5
func TestSubstitute(t *testing.T) {
	r := rand.New(rand.NewSource(8))
	counts := map[api.Errno]int{}
	for range 5000 {
		x, by := drawSound(r, 1+r.Intn(2), 1+r.Intn(7), 3, 3), drawSound(r, expression.Int, 1+r.Intn(7), 3, 3)
		index := r.Intn(4)
		want := replaced(x, index, by)
		e := errorOf(want, expression.MaxVariables)
		counts[e]++
		got, f := expression.Substitute(x, index, by)
		if e == api.OK && (f != api.OK || !same(got, want)) || e != api.OK && (f != e || !same(got, expr{})) {
			t.Fatalf("Substitute(%v, %d, %v) = %v, %d, not %v, %d", x, index, by, got, f, want, e)
		}
	}
	if counts[api.OK] < 500 || counts[api.ErrLimit] < 500 {
		t.Errorf("errors %v", counts)
	}
}

// P14.5: the errors in their order, and the limits of the result.
func TestErrorsOfSubstitute(t *testing.T) {
	yes := expression.True()
	twice := op(api.OpAdd, vari(0), vari(0))
	for i, c := range []struct {
		x     expr
		index int
		by    expr
		e     api.Errno
	}{
		{num(1), 0, num(1), api.OK},
		{num(1), 15, num(1), api.OK},
		{num(1), 16, num(1), api.ErrRange},
		{num(1), -1, num(1), api.ErrRange},
		{num(1), math.MaxInt, num(1), api.ErrRange},
		{num(1), math.MinInt, num(1), api.ErrRange},
		{num(1), -1, yes, api.ErrType},
		{yes, 0, yes, api.ErrType},
		{vari(15), 15, vari(15), api.OK},
		{vari(16), 99, yes, api.ErrRange},
		{num(1), 0, vari(16), api.ErrRange},
		{op(api.OpNot), 99, expr{Op: 99}, api.ErrSize},
		{num(1), 99, expr{Op: 99}, api.ErrKind},
		{negatives(3, vari(0)), 0, negatives(4, num(1)), api.OK},
		{negatives(3, vari(0)), 0, negatives(5, num(1)), api.ErrLimit},
		{negatives(3, vari(0)), 1, negatives(7, num(1)), api.OK},
		{op(api.OpAdd, negatives(4, num(1)), vari(0)), 0, sum(28), api.OK},
		{twice, 0, sum(16), api.OK},
		{twice, 0, op(api.OpNeg, sum(16)), api.ErrLimit},
		{op(api.OpNeg, twice), 0, sum(16), api.OK},
		{op(api.OpNeg, op(api.OpNeg, twice)), 0, sum(16), api.ErrLimit},
		{sum(32), 0, op(api.OpNeg, sum(32)), api.OK},
	} {
		got, e := expression.Substitute(c.x, c.index, c.by)
		if e != c.e || e != api.OK && !same(got, expr{}) {
			t.Errorf("%d: Substitute = %v, %d, not %d", i, got, e, c.e)
		}
	}
	for want, x := range badExpressions() {
		if got, e := expression.Substitute(x, -1, yes); !same(got, expr{}) || e != want {
			t.Errorf("Substitute = %v, %d, not %d", got, e, want)
		}
		if got, e := expression.Substitute(num(1), -1, x); !same(got, expr{}) || e != want {
			t.Errorf("Substitute = %v, %d, not %d", got, e, want)
		}
	}
}

// P14.5: the variables of the other expression are not replaced again.
func TestSubstituteOnce(t *testing.T) {
	x := op(api.OpAdd, vari(0), vari(1))
	got, e := expression.Substitute(x, 0, op(api.OpMul, vari(0), vari(1)))
	if want := op(api.OpAdd, op(api.OpMul, vari(0), vari(1)), vari(1)); e != api.OK || !same(got, want) {
		t.Errorf("Substitute = %v, %d", got, e)
	}
}

// folded is the folded expression, by the words of the chapter.
func folded(x expr) expr {
	args := x.Args
	x.Args = nil
	constants := true
	for _, a := range args {
		a = folded(a)
		x.Args = append(x.Args, a)
		constants = constants && a.Op == api.OpConst
	}
	yes, no := expression.True(), expression.False()
	isYes, isNo := slices.IndexFunc(x.Args, func(a expr) bool { return same(a, yes) }), slices.IndexFunc(x.Args, func(a expr) bool { return same(a, no) })
	switch x.Op {
	case api.OpAdd, api.OpSub, api.OpMul, api.OpNeg:
		if constants {
			if value, ok := valueOf(x, nil); ok && max(value, -value) <= 65536 {
				return num(value)
			}
		}
	case api.OpEq, api.OpNe, api.OpLt, api.OpLe:
		if constants {
			if value, _ := valueOf(x, nil); value == 1 {
				return yes
			}
			return no
		}
	case api.OpNot:
		switch {
		case isYes == 0:
			return no
		case isNo == 0:
			return yes
		case x.Args[0].Op == api.OpNot:
			return x.Args[0].Args[0]
		}
	case api.OpAnd, api.OpOr:
		neutral, decides := isYes, isNo
		if x.Op == api.OpOr {
			neutral, decides = isNo, isYes
		}
		switch {
		case decides >= 0:
			return x.Args[decides]
		case neutral >= 0:
			return x.Args[1-neutral]
		}
	case api.OpIte:
		switch {
		case isYes == 0:
			return x.Args[1]
		case isNo == 0:
			return x.Args[2]
		}
	}
	return x
}

// P14.6
func TestFold(t *testing.T) {
	r := rand.New(rand.NewSource(9))
	changed := 0
	for range 20000 {
		x := drawSound(r, 1+r.Intn(2), 1+r.Intn(7), r.Intn(3), []int{2, 65536}[r.Intn(2)])
		want := folded(x)
		got, e := expression.Fold(x)
		if e != api.OK || !same(got, want) {
			t.Fatalf("Fold(%v) = %v, %d, not %v", x, got, e, want)
		}
		if !same(got, x) {
			changed++
		}
	}
	if changed < 5000 {
		t.Errorf("only %d were changed", changed)
	}
}

// P14.6: each rule, and what is no rule.
func TestRulesOfFold(t *testing.T) {
	yes, no, a := expression.True(), expression.False(), vari(0)
	is := op(api.OpEq, a, num(1))
	other := op(api.OpLt, a, num(4))
	for i, c := range []struct{ x, want expr }{
		{num(5), num(5)},
		{a, a},
		{op(api.OpAdd, num(2), num(3)), num(5)},
		{op(api.OpSub, num(2), num(3)), num(-1)},
		{op(api.OpMul, num(2), num(3)), num(6)},
		{op(api.OpNeg, num(2)), num(-2)},
		{op(api.OpNeg, num(65536)), num(-65536)},
		{op(api.OpAdd, num(65535), num(1)), num(65536)},
		{op(api.OpAdd, num(65536), num(1)), op(api.OpAdd, num(65536), num(1))},
		{op(api.OpSub, num(-65536), num(1)), op(api.OpSub, num(-65536), num(1))},
		{op(api.OpSub, num(-65535), num(1)), num(-65536)},
		{op(api.OpMul, num(256), num(256)), num(65536)},
		{op(api.OpMul, num(65536), num(65536)), op(api.OpMul, num(65536), num(65536))},
		{op(api.OpMul, num(65536), num(-2)), op(api.OpMul, num(65536), num(-2))},
		{op(api.OpEq, op(api.OpAdd, num(65536), num(1)), op(api.OpAdd, num(65536), num(1))), op(api.OpEq, op(api.OpAdd, num(65536), num(1)), op(api.OpAdd, num(65536), num(1)))},
		{op(api.OpSub, op(api.OpAdd, num(65536), num(1)), num(1)), op(api.OpSub, op(api.OpAdd, num(65536), num(1)), num(1))},
		{op(api.OpMul, a, num(0)), op(api.OpMul, a, num(0))},
		{op(api.OpAdd, a, num(0)), op(api.OpAdd, a, num(0))},
		{op(api.OpSub, a, a), op(api.OpSub, a, a)},
		{op(api.OpEq, a, a), op(api.OpEq, a, a)},
		{op(api.OpNeg, op(api.OpNeg, a)), op(api.OpNeg, op(api.OpNeg, a))},
		{op(api.OpEq, num(3), num(3)), yes},
		{op(api.OpEq, num(3), num(4)), no},
		{op(api.OpNe, num(3), num(3)), no},
		{op(api.OpNe, num(3), num(4)), yes},
		{op(api.OpLt, num(3), num(3)), no},
		{op(api.OpLt, num(3), num(4)), yes},
		{op(api.OpLe, num(3), num(3)), yes},
		{op(api.OpLe, num(4), num(3)), no},
		{yes, yes},
		{no, no},
		{op(api.OpNot, yes), no},
		{op(api.OpNot, no), yes},
		{op(api.OpNot, op(api.OpNot, yes)), yes},
		{op(api.OpNot, op(api.OpNot, is)), is},
		{op(api.OpNot, op(api.OpNot, op(api.OpNot, is))), op(api.OpNot, is)},
		{op(api.OpNot, is), op(api.OpNot, is)},
		{op(api.OpAnd, no, is), no},
		{op(api.OpAnd, is, no), no},
		{op(api.OpAnd, yes, no), no},
		{op(api.OpAnd, no, yes), no},
		{op(api.OpAnd, yes, yes), yes},
		{op(api.OpAnd, no, no), no},
		{op(api.OpAnd, yes, is), is},
		{op(api.OpAnd, is, yes), is},
		{op(api.OpAnd, is, is), op(api.OpAnd, is, is)},
		{op(api.OpAnd, is, other), op(api.OpAnd, is, other)},
		{op(api.OpOr, yes, is), yes},
		{op(api.OpOr, is, yes), yes},
		{op(api.OpOr, yes, no), yes},
		{op(api.OpOr, no, yes), yes},
		{op(api.OpOr, no, no), no},
		{op(api.OpOr, yes, yes), yes},
		{op(api.OpOr, no, is), is},
		{op(api.OpOr, is, no), is},
		{op(api.OpOr, is, other), op(api.OpOr, is, other)},
		{op(api.OpIte, yes, a, num(2)), a},
		{op(api.OpIte, no, a, num(2)), num(2)},
		{op(api.OpIte, yes, is, other), is},
		{op(api.OpIte, no, is, other), other},
		{op(api.OpIte, is, a, a), op(api.OpIte, is, a, a)},
		{op(api.OpIte, is, yes, no), op(api.OpIte, is, yes, no)},
		{op(api.OpIte, op(api.OpLt, op(api.OpAdd, num(1), num(1)), num(3)), op(api.OpNeg, num(-1)), a), num(1)},
		{op(api.OpAnd, op(api.OpNot, op(api.OpEq, num(1), num(2))), op(api.OpOr, is, op(api.OpLe, num(9), num(8)))), is},
		{op(api.OpNot, op(api.OpAnd, op(api.OpNot, is), yes)), is},
	} {
		if got, e := expression.Fold(c.x); e != api.OK || !same(got, c.want) {
			t.Errorf("%d: Fold(%v) = %v, %d, not %v", i, c.x, got, e, c.want)
		}
	}
	for want, x := range badExpressions() {
		if got, e := expression.Fold(x); !same(got, expr{}) || e != want {
			t.Errorf("Fold = %v, %d, not %d", got, e, want)
		}
	}
	if _, e := expression.Fold(vari(16)); e != api.ErrRange {
		t.Errorf("Fold: %d", e)
	}
}

// P14.7
func TestConsequences(t *testing.T) {
	r := rand.New(rand.NewSource(10))
	l := wholesome()
	all, _ := expression.All(l)
	for range 3000 {
		x := drawSound(r, 1+r.Intn(2), 1+r.Intn(7), len(l), []int{3, 65536}[r.Intn(2)])
		kind, _ := expression.Check(x, len(l))
		fold, _ := expression.Fold(x)
		again, _ := expression.Fold(fold)
		if k, e := expression.Check(fold, len(l)); k != kind || e != api.OK || nodesOf(fold) > nodesOf(x) || !same(again, fold) {
			t.Fatalf("Fold(%v) = %v, and then %v", x, fold, again)
		}
		low, high, e := expression.Bounds(x, l)
		by, index := drawSound(r, expression.Int, 3, len(l), 3), r.Intn(len(l))
		substituted, f := expression.Substitute(x, index, by)
		uses, _ := expression.Uses(x)
		for _, values := range all {
			value, g := expression.Evaluate(x, values)
			if e == api.OK && (g != api.OK || value < low || value > high) {
				t.Fatalf("Evaluate(%v, %v) = %d, %d, with the bounds %d and %d", x, values, value, g, low, high)
			}
			if v, h := expression.Evaluate(fold, values); g == api.OK && (v != value || h != api.OK) {
				t.Fatalf("Evaluate(%v, %v) = %d, but %d folded", x, values, value, v)
			}
			other := all[r.Intn(len(all))]
			mixed := slices.Clone(other)
			for _, u := range uses {
				mixed[u] = values[u]
			}
			if v, h := expression.Evaluate(x, mixed); v != value || h != g {
				t.Fatalf("Evaluate(%v) depends on more than %v", x, uses)
			}
			v, h := expression.Evaluate(by, values)
			if f != api.OK || h != api.OK || max(v, -v) > api.MaxValue {
				continue
			}
			changed := slices.Clone(values)
			changed[index] = v
			v, h = expression.Evaluate(x, changed)
			if w, i := expression.Evaluate(substituted, values); v != w || h != i {
				t.Fatalf("Substitute(%v, %d, %v) has the value %d, %d, not %d, %d", x, index, by, w, i, v, h)
			}
		}
	}
}

// The chapter's examples.
func TestExamples(t *testing.T) {
	l := ranges(3)
	x := vari(0)
	square := op(api.OpSub, op(api.OpMul, x, x), num(4))
	if low, high, e := expression.Bounds(square, l); low != -4 || high != 5 || e != api.OK {
		t.Errorf("Bounds = %d, %d, %d", low, high, e)
	}
	if value, e := expression.Evaluate(square, ints{3}); value != 5 || e != api.OK {
		t.Errorf("Evaluate = %d, %d", value, e)
	}
	if low, high, e := expression.Bounds(op(api.OpLt, x, num(4)), l); low != 1 || high != 1 || e != api.OK {
		t.Errorf("Bounds = %d, %d, %d", low, high, e)
	}
	if low, high, e := expression.Bounds(op(api.OpEq, x, num(3)), l); low != 0 || high != 1 || e != api.OK {
		t.Errorf("Bounds = %d, %d, %d", low, high, e)
	}
	is := op(api.OpEq, x, num(1))
	both := op(api.OpAnd, op(api.OpLe, num(2), num(3)), is)
	for _, y := range []expr{both, op(api.OpNot, op(api.OpNot, both))} {
		if z, e := expression.Fold(y); !expression.Equal(z, is) || e != api.OK {
			t.Errorf("Fold = %v, %d", z, e)
		}
	}
}

// Arguments stay as they are, and results share no memory with them, nor within themselves.
func TestMemory(t *testing.T) {
	r := rand.New(rand.NewSource(11))
	for range 300 {
		x, by := drawSound(r, 1+r.Intn(2), 5, 2, 2), drawSound(r, expression.Int, 2, 2, 2)
		keptX, keptBy := copyOf(x), copyOf(by)
		folded, _ := expression.Fold(x)
		substituted, e := expression.Substitute(x, 0, by)
		if !same(x, keptX) || !same(by, keptBy) {
			t.Fatal("an argument was changed")
		}
		for _, y := range []expr{folded, substituted} {
			all, _ := at(&y, 1)
			met := map[*expr]bool{}
			for _, z := range all {
				if met[z] {
					t.Fatal("a result shares memory with itself")
				}
				met[z] = true
			}
			for _, z := range all {
				*z = expr{Op: -1, Value: -1, Index: -1}
			}
		}
		if !same(x, keptX) || !same(by, keptBy) || e != api.OK && e != api.ErrLimit {
			t.Fatal("a result shares memory with an argument")
		}
	}
	l := wholesome()
	first, _ := expression.All(l)
	for _, values := range first {
		_ = append(values, 99)
		for i := range values {
			values[i] = 99
		}
	}
	second, _ := expression.All(l)
	for _, values := range second {
		if !expression.Within(l, values) {
			t.Fatal("results of All share memory")
		}
	}
	if !slices.Equal(l, wholesome()) {
		t.Error("the variables were changed")
	}
}

// P1: no function panics, whatever its arguments are.
func TestAnyArguments(t *testing.T) {
	var all []expr
	for _, x := range badExpressions() {
		all = append(all, x)
	}
	all = append(all, expr{}, expr{Args: []expr{}}, vari(3), negatives(1<<16, num(1)), op(api.OpIte, expression.True(), num(1), expression.True()))
	lists := [][]api.Variable{nil, wholesome(), bits(16), {{Low: math.MinInt, High: math.MaxInt}}}
	for _, l := range badVariables() {
		lists = append(lists, l)
	}
	values := []ints{nil, {}, {0}, {math.MaxInt, math.MinInt}, make(ints, 100)}
	for _, x := range all {
		expression.Uses(x)
		expression.Fold(x)
		for _, n := range []int{math.MinInt, -1, 0, 16, math.MaxInt} {
			expression.Check(x, n)
		}
		for _, y := range all {
			expression.Equal(x, y)
			expression.Substitute(x, 0, y)
		}
		for _, l := range lists {
			expression.Bounds(x, l)
		}
		for _, v := range values {
			expression.Evaluate(x, v)
		}
	}
	for _, l := range lists {
		expression.CheckVariables(l)
		expression.All(l)
		for _, v := range values {
			expression.Within(l, v)
		}
	}
}

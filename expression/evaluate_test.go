package expression_test

import (
	"math"
	"math/rand"
	"slices"
	"testing"

	"overseer/api"
	"overseer/expression"
)

// valueOf is the value of an expression with the right types, by the words of the chapter, or false if it overflows.
func valueOf(x expr, values ints) (int, bool) {
	of := func(i int) int {
		v, ok := valueOf(x.Args[i], values)
		if !ok {
			panic("overflow")
		}
		return v
	}
	is := func(b bool) int {
		if b {
			return 1
		}
		return 0
	}
	value, ok := 0, true
	func() {
		defer func() { ok = recover() == nil }()
		switch x.Op {
		case api.OpConst:
			value = x.Value
		case api.OpVar:
			value = values[x.Index]
		case api.OpAdd:
			value = of(0) + of(1)
		case api.OpSub:
			value = of(0) - of(1)
		case api.OpMul:
			value = of(0) * of(1)
		case api.OpNeg:
			value = -of(0)
		case api.OpEq:
			value = is(of(0) == of(1))
		case api.OpNe:
			value = is(of(0) != of(1))
		case api.OpLt:
			value = is(of(0) < of(1))
		case api.OpLe:
			value = is(of(0) <= of(1))
		case api.OpNot:
			value = is(of(0) == 0)
		case api.OpAnd:
			a, b := of(0), of(1)
			value = is(a == 1 && b == 1)
		case api.OpOr:
			a, b := of(0), of(1)
			value = is(a == 1 || b == 1)
		case api.OpIte:
			if of(0) == 1 {
				value = of(1)
			} else {
				value = of(2)
			}
		}
	}()
	if !ok || value > 1<<30 || value < -1<<30 {
		return 0, false
	}
	return value, true
}

// P14.3
func TestEvaluate(t *testing.T) {
	r := rand.New(rand.NewSource(6))
	overflows := 0
	for i := range 20000 {
		magnitude := []int{3, 3, 65536}[i%3]
		n := r.Intn(5)
		x := drawSound(r, 1+r.Intn(2), 1+r.Intn(6), n, magnitude)
		values := ints{}
		for range n {
			values = append(values, r.Intn(2*magnitude+1)-magnitude)
		}
		want, ok := valueOf(x, values)
		got, e := expression.Evaluate(x, values)
		if ok && (e != api.OK || got != want) || !ok && (e != api.ErrOverflow || got != 0) {
			t.Fatalf("Evaluate(%v, %v) = %d, %d, not %d, %v", x, values, got, e, want, ok)
		}
		if !ok {
			overflows++
		}
	}
	if overflows < 500 {
		t.Errorf("only %d expressions that overflow", overflows)
	}
}

// P14.3: each Op for some values.
func TestOps(t *testing.T) {
	a, b := vari(0), vari(1)
	yes, no := expression.True(), expression.False()
	for i, c := range []struct {
		x    expr
		want int
	}{
		{num(-7), -7}, {a, 3}, {b, -2},
		{op(api.OpAdd, a, b), 1}, {op(api.OpSub, a, b), 5}, {op(api.OpMul, a, b), -6}, {op(api.OpNeg, a), -3},
		{op(api.OpEq, a, b), 0}, {op(api.OpEq, a, num(3)), 1}, {op(api.OpNe, a, b), 1}, {op(api.OpNe, a, a), 0},
		{op(api.OpLt, a, b), 0}, {op(api.OpLt, b, a), 1}, {op(api.OpLt, a, a), 0},
		{op(api.OpLe, a, b), 0}, {op(api.OpLe, b, a), 1}, {op(api.OpLe, a, a), 1},
		{yes, 1}, {no, 0}, {op(api.OpNot, yes), 0}, {op(api.OpNot, no), 1},
		{op(api.OpAnd, yes, yes), 1}, {op(api.OpAnd, yes, no), 0}, {op(api.OpAnd, no, yes), 0}, {op(api.OpAnd, no, no), 0},
		{op(api.OpOr, yes, yes), 1}, {op(api.OpOr, yes, no), 1}, {op(api.OpOr, no, yes), 1}, {op(api.OpOr, no, no), 0},
		{op(api.OpIte, yes, a, b), 3}, {op(api.OpIte, no, a, b), -2}, {op(api.OpIte, yes, no, yes), 0}, {op(api.OpIte, no, no, yes), 1},
	} {
		if got, e := expression.Evaluate(c.x, ints{3, -2}); got != c.want || e != api.OK {
			t.Errorf("%d: Evaluate(%v) = %d, %d, not %d", i, c.x, got, e, c.want)
		}
	}
}

// large is 2^30 plus a number.
func large(more int) expr {
	return op(api.OpAdd, op(api.OpMul, num(1<<14), num(1<<16)), num(more))
}

// P14.3: what has exactly the greatest magnitude does not overflow; of an OpIte, what is not chosen is not evaluated; all other arguments are.
func TestOverflow(t *testing.T) {
	yes, no := expression.True(), expression.False()
	over := large(1)
	isOver := op(api.OpLt, over, num(0))
	power := op(api.OpMul, num(1<<15), num(1<<15))
	for i, c := range []struct {
		x    expr
		want int
		e    api.Errno
	}{
		{large(0), 1 << 30, api.OK},
		{large(-1), 1<<30 - 1, api.OK},
		{over, 0, api.ErrOverflow},
		{op(api.OpNeg, large(0)), -1 << 30, api.OK},
		{op(api.OpSub, op(api.OpNeg, large(0)), num(0)), -1 << 30, api.OK},
		{op(api.OpSub, op(api.OpNeg, large(0)), num(1)), 0, api.ErrOverflow},
		{op(api.OpAdd, op(api.OpNeg, large(0)), num(-1)), 0, api.ErrOverflow},
		{op(api.OpSub, op(api.OpNeg, large(0)), num(-1)), 1 - 1<<30, api.OK},
		{op(api.OpMul, num(1<<15), num(1<<15)), 1 << 30, api.OK},
		{op(api.OpMul, num(-1<<15), num(1<<15)), -1 << 30, api.OK},
		{op(api.OpMul, num(1<<16), num(1<<14+1)), 0, api.ErrOverflow},
		{op(api.OpMul, num(-1<<16), num(1<<14+1)), 0, api.ErrOverflow},
		{op(api.OpMul, num(1<<16), num(1<<16)), 0, api.ErrOverflow},
		{op(api.OpMul, power, power), 0, api.ErrOverflow},
		{op(api.OpMul, op(api.OpNeg, power), power), 0, api.ErrOverflow},
		{op(api.OpMul, op(api.OpMul, power, power), num(0)), 0, api.ErrOverflow},
		{op(api.OpIte, yes, num(5), over), 5, api.OK},
		{op(api.OpIte, no, over, num(5)), 5, api.OK},
		{op(api.OpIte, yes, over, num(5)), 0, api.ErrOverflow},
		{op(api.OpIte, no, num(5), over), 0, api.ErrOverflow},
		{op(api.OpIte, isOver, num(5), num(5)), 0, api.ErrOverflow},
		{op(api.OpIte, isOver, num(5), over), 0, api.ErrOverflow},
		{op(api.OpIte, op(api.OpIte, yes, no, isOver), op(api.OpIte, isOver, over, over), num(-1)), -1, api.OK},
		{op(api.OpAnd, no, isOver), 0, api.ErrOverflow},
		{op(api.OpAnd, isOver, no), 0, api.ErrOverflow},
		{op(api.OpOr, yes, isOver), 0, api.ErrOverflow},
		{op(api.OpOr, isOver, yes), 0, api.ErrOverflow},
		{op(api.OpNot, isOver), 0, api.ErrOverflow},
		{op(api.OpEq, over, over), 0, api.ErrOverflow},
		{op(api.OpMul, num(0), over), 0, api.ErrOverflow},
		{op(api.OpSub, over, over), 0, api.ErrOverflow},
	} {
		if got, e := expression.Evaluate(c.x, nil); got != c.want || e != c.e {
			t.Errorf("%d: Evaluate = %d, %d, not %d, %d", i, got, e, c.want, c.e)
		}
	}
}

// P14.3: the errors in their order.
func TestErrorsOfEvaluate(t *testing.T) {
	for i, c := range []struct {
		x      expr
		values ints
		e      api.Errno
	}{
		{num(1), make(ints, 16), api.OK},
		{num(1), make(ints, 17), api.ErrRange},
		{expr{Op: 99}, make(ints, 17), api.ErrRange},
		{expr{Op: 99}, ints{1 << 20}, api.ErrKind},
		{vari(1), ints{0}, api.ErrRange},
		{vari(0), ints{65536}, api.OK},
		{vari(0), ints{-65536}, api.OK},
		{vari(0), ints{65537}, api.ErrRange},
		{vari(0), ints{-65537}, api.ErrRange},
		{vari(0), ints{0, math.MaxInt}, api.ErrRange},
		{num(1), ints{math.MinInt}, api.ErrRange},
		{large(1), ints{0, 0, 65537}, api.ErrRange},
		{large(1), ints{0, 0, 65536}, api.ErrOverflow},
		{op(api.OpNot, vari(0)), ints{65537}, api.ErrType},
	} {
		got, e := expression.Evaluate(c.x, c.values)
		if e != c.e || e != api.OK && got != 0 {
			t.Errorf("%d: Evaluate = %d, %d, not %d", i, got, e, c.e)
		}
	}
	for want, x := range badExpressions() {
		if got, e := expression.Evaluate(x, ints{1 << 20}); got != 0 || e != want {
			t.Errorf("Evaluate = %d, %d, not %d", got, e, want)
		}
	}
}

// limits are bounds, or the error that there are none.
type limits struct {
	low, high int
	e         api.Errno
}

// boundsOf are the bounds of an expression, by the words of the chapter: for comparisons, and what consists of them, all numbers within the bounds of the arguments are tried, if they are few (otherwise it gives up).
func boundsOf(x expr, l []api.Variable, giveUp func()) limits {
	var of []limits
	for _, a := range x.Args {
		b := boundsOf(a, l, giveUp)
		if b.e != api.OK {
			return b
		}
		of = append(of, b)
	}
	from := func(numbers ...int) limits {
		b := limits{slices.Min(numbers), slices.Max(numbers), api.OK}
		if b.low < -1<<30 || b.high > 1<<30 {
			return limits{0, 0, api.ErrOverflow}
		}
		return b
	}
	switch x.Op {
	case api.OpConst:
		return from(x.Value)
	case api.OpVar:
		return from(l[x.Index].Low, l[x.Index].High)
	case api.OpNeg:
		return from(-of[0].low, -of[0].high)
	case api.OpAdd:
		return from(of[0].low+of[1].low, of[0].high+of[1].high)
	case api.OpSub:
		return from(of[0].low-of[1].high, of[0].high-of[1].low)
	case api.OpMul:
		return from(of[0].low*of[1].low, of[0].low*of[1].high, of[0].high*of[1].low, of[0].high*of[1].high)
	case api.OpNot:
		return from(1-of[0].low, 1-of[0].high)
	case api.OpIte:
		switch (limits{of[0].low, of[0].high, api.OK}) {
		case limits{1, 1, api.OK}:
			return of[1]
		case limits{0, 0, api.OK}:
			return of[2]
		}
		return from(of[1].low, of[1].high, of[2].low, of[2].high)
	}
	if (of[0].high-of[0].low+1)*(of[1].high-of[1].low+1) > 2000 {
		giveUp()
		return from(0, 1)
	}
	var results ints
	for a := of[0].low; a <= of[0].high; a++ {
		for b := of[1].low; b <= of[1].high; b++ {
			value, _ := valueOf(op(x.Op, num(a), num(b)), nil)
			if x.Op == api.OpAnd || x.Op == api.OpOr {
				value, _ = valueOf(op(x.Op, op(api.OpEq, num(a), num(1)), op(api.OpEq, num(b), num(1))), nil)
			}
			results = append(results, value)
		}
	}
	return from(results...)
}

// P14.4
func TestBounds(t *testing.T) {
	r := rand.New(rand.NewSource(7))
	counts, tried := map[limits]int{}, 0
	for range 20000 {
		l := wholesome()[:1+r.Intn(3)]
		for i := range l {
			l[i].Low -= r.Intn(3)
			l[i].High += r.Intn(2)
		}
		kind := 1 + r.Intn(2)
		x := drawSound(r, kind, 1+r.Intn(6), len(l), 2)
		few := true
		want := boundsOf(x, l, func() { few = false })
		if !few {
			continue
		}
		low, high, e := expression.Bounds(x, l)
		if (limits{low, high, e}) != want {
			t.Fatalf("Bounds(%v, %v) = %d, %d, %d, not %v", x, l, low, high, e, want)
		}
		tried++
		if kind == expression.Bool {
			counts[want]++
		}
	}
	if tried < 15000 || counts[limits{0, 0, api.OK}] < 500 || counts[limits{0, 1, api.OK}] < 500 || counts[limits{1, 1, api.OK}] < 500 {
		t.Errorf("%d tried, %v", tried, counts)
	}
}

// P14.4: every comparison of all bounds from 0 to 3, and of negative ones.
func TestBoundsOfComparisons(t *testing.T) {
	for o := api.OpEq; o <= api.OpLe; o++ {
		for code := range 4 * 4 * 4 * 4 {
			a, b, c, d := code&3-1, code>>2&3-1, code>>4&3-1, code>>6-1
			if a > b || c > d {
				continue
			}
			l := []api.Variable{{Name: "x", Low: a, High: b, Initial: a}, {Name: "y", Low: c, High: d, Initial: c}}
			x := op(o, vari(0), vari(1))
			want := boundsOf(x, l, func() {})
			if low, high, e := expression.Bounds(x, l); (limits{low, high, e}) != want {
				t.Errorf("Bounds(%d, %v) = %d, %d, %d, not %v", o, l, low, high, e, want)
			}
		}
	}
}

// P14.4: bounds of exactly the greatest magnitude, and greater ones, also in arguments that are not chosen.
func TestOverflowOfBounds(t *testing.T) {
	l := []api.Variable{{Name: "x", Low: -1 << 16, High: 1 << 16}, {Name: "y", Low: 0, High: 1}, {Name: "z", Low: -3, High: 1 << 14}}
	x, y, z := vari(0), vari(1), vari(2)
	none := limits{0, 0, api.ErrOverflow}
	over := large(1)
	yes, no := expression.True(), expression.False()
	for i, c := range []struct {
		x    expr
		want limits
	}{
		{op(api.OpMul, x, z), limits{-1 << 30, 1 << 30, api.OK}},
		{op(api.OpMul, z, x), limits{-1 << 30, 1 << 30, api.OK}},
		{op(api.OpMul, x, x), none},
		{op(api.OpAdd, op(api.OpMul, x, z), y), none},
		{op(api.OpSub, op(api.OpMul, x, z), y), none},
		{op(api.OpSub, y, op(api.OpMul, x, z)), none},
		{op(api.OpNeg, op(api.OpMul, x, z)), limits{-1 << 30, 1 << 30, api.OK}},
		{op(api.OpSub, op(api.OpMul, num(1<<16), z), y), limits{-3<<16 - 1, 1 << 30, api.OK}},
		{op(api.OpAdd, op(api.OpMul, num(1<<16), z), y), none},
		{op(api.OpAdd, op(api.OpMul, num(-1<<16), z), y), limits{-1 << 30, 3<<16 + 1, api.OK}},
		{op(api.OpSub, op(api.OpMul, num(-1<<16), z), y), none},
		{op(api.OpMul, op(api.OpMul, x, z), op(api.OpMul, x, z)), none},
		{op(api.OpIte, yes, y, over), none},
		{op(api.OpIte, no, over, y), none},
		{op(api.OpIte, op(api.OpEq, over, y), y, y), none},
		{op(api.OpAnd, no, op(api.OpEq, over, y)), none},
		{op(api.OpOr, op(api.OpEq, y, over), yes), none},
		{op(api.OpNot, op(api.OpEq, y, over)), none},
		{op(api.OpMul, num(0), over), none},
		{op(api.OpIte, yes, y, z), limits{0, 1, api.OK}},
		{op(api.OpIte, no, y, z), limits{-3, 1 << 14, api.OK}},
		{op(api.OpIte, op(api.OpEq, x, y), num(-9), z), limits{-9, 1 << 14, api.OK}},
		{op(api.OpIte, op(api.OpEq, x, y), z, num(1<<15)), limits{-3, 1 << 15, api.OK}},
		{op(api.OpIte, op(api.OpEq, x, y), yes, no), limits{0, 1, api.OK}},
		{op(api.OpIte, op(api.OpEq, x, y), yes, yes), limits{1, 1, api.OK}},
		{op(api.OpEq, x, x), limits{0, 1, api.OK}},
		{op(api.OpSub, x, x), limits{-1 << 17, 1 << 17, api.OK}},
	} {
		if low, high, e := expression.Bounds(c.x, l); (limits{low, high, e}) != c.want {
			t.Errorf("%d: Bounds = %d, %d, %d, not %v", i, low, high, e, c.want)
		}
	}
}

// P14.4: the errors in their order.
func TestErrorsOfBounds(t *testing.T) {
	for want, l := range badVariables() {
		for _, x := range badExpressions() {
			if low, high, e := expression.Bounds(x, l); low != 0 || high != 0 || e != want {
				t.Errorf("Bounds = %d, %d, %d, not %d", low, high, e, want)
			}
		}
	}
	for want, x := range badExpressions() {
		if low, high, e := expression.Bounds(x, wholesome()); low != 0 || high != 0 || e != want {
			t.Errorf("Bounds = %d, %d, %d, not %d", low, high, e, want)
		}
	}
	if _, _, e := expression.Bounds(op(api.OpAdd, large(1), vari(3)), wholesome()); e != api.ErrRange {
		t.Errorf("Bounds: %d", e)
	}
	if low, high, e := expression.Bounds(num(-4), nil); low != -4 || high != -4 || e != api.OK {
		t.Errorf("Bounds = %d, %d, %d", low, high, e)
	}
	// There is no limit on how many values the variables have.
	wide := api.Variable{Name: "w", Low: -1 << 16, High: 1 << 16}
	if low, high, e := expression.Bounds(op(api.OpNeg, vari(0)), []api.Variable{wide}); low != -1<<16 || high != 1<<16 || e != api.OK {
		t.Errorf("Bounds = %d, %d, %d", low, high, e)
	}
}

package expression

import "overseer/api"

// Evaluate returns the value of an expression for some values of the variables.
func Evaluate(x api.Expr, values []int) (int, api.Errno) {
	if _, e := Check(x, len(values)); e != api.OK {
		return 0, e
	}
	for _, value := range values {
		if !isUpTo(value, api.MaxValue) {
			return 0, api.ErrRange
		}
	}
	return evaluate(x, values)
}

// evaluate does what Evaluate does, for arguments without an error.
func evaluate(x api.Expr, values []int) (value int, e api.Errno) {
	var of [maxArguments]int
arguments:
	for i, argument := range x.Args {
		switch {
		case e != api.OK:
			break arguments
		case x.Op == api.OpIte && i == 1+of[0]: // the one that is not chosen
		default:
			of[i], e = evaluate(argument, values)
		}
	}
	switch {
	case e != api.OK:
		return 0, e
	case x.Op == api.OpConst:
		return x.Value, api.OK
	case x.Op == api.OpVar:
		return values[x.Index], api.OK
	}
	if value = apply(x.Op, of); !isUpTo(value, MaxResult) {
		return 0, api.ErrOverflow
	}
	return value, api.OK
}

// apply returns the value of an operation for values of its arguments.
func apply(op int, of [maxArguments]int) int {
	switch op {
	case api.OpAdd:
		return of[0] + of[1]
	case api.OpSub:
		return of[0] - of[1]
	case api.OpMul:
		return of[0] * of[1]
	case api.OpNeg:
		return -of[0]
	case api.OpEq:
		return truth(of[0] == of[1])
	case api.OpNe:
		return truth(of[0] != of[1])
	case api.OpLt:
		return truth(of[0] < of[1])
	case api.OpLe:
		return truth(of[0] <= of[1])
	case api.OpNot:
		return 1 - of[0]
	case api.OpAnd:
		return min(of[0], of[1])
	case api.OpOr:
		return max(of[0], of[1])
	}
	return of[2-of[0]] // OpIte
}

func truth(is bool) int {
	if is {
		return 1
	}
	return 0
}

// Bounds returns bounds of the value of an expression.
func Bounds(x api.Expr, l []api.Variable) (low, high int, e api.Errno) {
	if e := CheckVariables(l); e != api.OK {
		return 0, 0, e
	}
	if _, e := Check(x, len(l)); e != api.OK {
		return 0, 0, e
	}
	return bounds(x, l)
}

// bounds does what Bounds does, for arguments without an error.
func bounds(x api.Expr, l []api.Variable) (low, high int, e api.Errno) {
	switch x.Op {
	case api.OpConst:
		return x.Value, x.Value, api.OK
	case api.OpVar:
		return l[x.Index].Low, l[x.Index].High, api.OK
	}
	var lows, highs [maxArguments]int
	for i, argument := range x.Args {
		lows[i], highs[i], e = bounds(argument, l)
		if e != api.OK {
			return 0, 0, e
		}
	}
	low, high = boundsOf(x.Op, lows, highs)
	if !isUpTo(low, MaxResult) || !isUpTo(high, MaxResult) {
		return 0, 0, api.ErrOverflow
	}
	return low, high, api.OK
}

// boundsOf returns the bounds of an operation for bounds of its arguments.
func boundsOf(op int, lows, highs [maxArguments]int) (low, high int) {
	meet := lows[0] <= highs[1] && lows[1] <= highs[0]
	switch {
	case op == api.OpIte && lows[0] == 1:
		return lows[1], highs[1]
	case op == api.OpIte && highs[0] == 0:
		return lows[2], highs[2]
	case op == api.OpIte:
		return min(lows[1], lows[2]), max(highs[1], highs[2])
	}
	low, high = extremes(op, lows, highs)
	switch {
	case op == api.OpEq && meet: // perhaps in a number that is no bound
		high = 1
	case op == api.OpNe && meet:
		low = 0
	}
	return low, high
}

// extremes returns the least and the greatest value of an operation if each argument is one of its bounds.
func extremes(op int, lows, highs [maxArguments]int) (low, high int) {
	low = apply(op, lows)
	high = low
	for _, first := range [...]int{lows[0], highs[0]} {
		for _, second := range [...]int{lows[1], highs[1]} {
			value := apply(op, [maxArguments]int{first, second})
			low, high = min(low, value), max(high, value)
		}
	}
	return low, high
}

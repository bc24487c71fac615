package expression

import "overseer/api"

// Substitute returns the expression in which another one stands in place of a variable.
func Substitute(x api.Expr, index int, by api.Expr) (api.Expr, api.Errno) {
	if e := checkSubstitution(x, index, by); e != api.OK {
		return api.Expr{}, e
	}
	same := func(x api.Expr) api.Expr { return x }
	y := rebuild(x, func(x api.Expr) api.Expr {
		if x.Op == api.OpVar && x.Index == index {
			return rebuild(by, same) // a copy for each place, because no two of them may share memory
		}
		return x
	})
	if _, e := Check(y, MaxVariables); e != api.OK {
		return api.Expr{}, e
	}
	return y, api.OK
}

func checkSubstitution(x api.Expr, index int, by api.Expr) api.Errno {
	if _, e := Check(x, MaxVariables); e != api.OK {
		return e
	}
	kind, e := Check(by, MaxVariables)
	switch {
	case e != api.OK:
		return e
	case kind != Int:
		return api.ErrType
	case index < 0 || index >= MaxVariables:
		return api.ErrRange
	}
	return api.OK
}

// rebuild returns what a function makes of an expression, after it has made its arguments.
func rebuild(x api.Expr, change func(x api.Expr) api.Expr) api.Expr {
	var arguments []api.Expr
	for _, argument := range x.Args {
		arguments = append(arguments, rebuild(argument, change))
	}
	x.Args = arguments
	return change(x)
}

// Fold returns the expression in which what is constant has been calculated.
func Fold(x api.Expr) (api.Expr, api.Errno) {
	if _, e := Check(x, MaxVariables); e != api.OK {
		return api.Expr{}, e
	}
	return rebuild(x, simplified), api.OK
}

// simplified returns what the first rule that applies makes of an expression with folded arguments.
func simplified(x api.Expr) api.Expr {
	switch x.Op {
	case api.OpConst, api.OpVar:
		return x
	case api.OpNot:
		return simplifiedNot(x)
	case api.OpAnd:
		return simplifiedJoin(x, True(), False())
	case api.OpOr:
		return simplifiedJoin(x, False(), True())
	case api.OpIte:
		return simplifiedChoice(x)
	}
	return calculated(x)
}

// calculated returns the result of an operation on numbers if it is constant.
func calculated(x api.Expr) api.Expr {
	var of [maxArguments]int
	for i, argument := range x.Args {
		if argument.Op != api.OpConst {
			return x
		}
		of[i] = argument.Value
	}
	value, isBool := apply(x.Op, of), operators[x.Op].kind == Bool
	switch {
	case isBool && value == 1:
		return True()
	case isBool:
		return False()
	case !isUpTo(value, api.MaxValue):
		return x
	}
	return constant(value)
}

func simplifiedNot(x api.Expr) api.Expr {
	of := x.Args[0]
	switch {
	case Equal(of, True()):
		return False()
	case Equal(of, False()):
		return True()
	case of.Op == api.OpNot:
		return of.Args[0]
	}
	return x
}

// simplifiedJoin simplifies an OpAnd or OpOr: an argument that is neutral does not matter, and beside one that decides, the other one does not.
func simplifiedJoin(x, neutral, decides api.Expr) api.Expr {
	first, second := x.Args[0], x.Args[1]
	switch {
	case Equal(first, neutral), Equal(second, decides):
		return second
	case Equal(second, neutral), Equal(first, decides):
		return first
	}
	return x
}

func simplifiedChoice(x api.Expr) api.Expr {
	switch {
	case Equal(x.Args[0], True()):
		return x.Args[1]
	case Equal(x.Args[0], False()):
		return x.Args[2]
	}
	return x
}

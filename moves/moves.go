// Package moves checks what moves over bounded variables consist of, guards and updates. It serves the packages that check automata or models with such moves.
package moves

import (
	"overseer/api"
	"overseer/expression"
)

// CheckGuard returns the error of a guard over n variables: that of expression.Check, or ErrType if it is not Bool.
func CheckGuard(x api.Expr, n int) api.Errno {
	return checkType(x, n, expression.Bool)
}

func checkType(x api.Expr, n, kind int) api.Errno {
	is, e := expression.Check(x, n)
	if e == api.OK && is != kind {
		return api.ErrType
	}
	return e
}

// CheckUpdates returns the error of a list of updates of n variables, for each of them in order: ErrRange if it is of none of the variables, ErrOrder if its variable is not greater than that of the one before, that of expression.Check for its value, or ErrType if this is not Int.
func CheckUpdates(l []api.Update, n int) api.Errno {
	for i, u := range l {
		if u.Variable < 0 || u.Variable >= n {
			return api.ErrRange
		}
		if i > 0 && u.Variable <= l[i-1].Variable {
			return api.ErrOrder
		}
		if e := checkType(u.Value, n, expression.Int); e != api.OK {
			return e
		}
	}
	return api.OK
}

// Package moves checks what moves over bounded variables consist of, guards and updates, copies moves, and chooses the one that an event makes. It serves the packages that check, run or change automata or models with such moves.
package moves

import (
	"cmp"
	"slices"

	"overseer/api"
	"overseer/expression"
)

// CheckGuard returns the error of a guard over n variables: that of expression.Check, or ErrType if it is not Bool.
func CheckGuard(x api.Expr, n int) api.Errno {
	return checkType(x, n, expression.Bool)
}

func checkType(x api.Expr, n, kind int) api.Errno {
	is, e := expression.Check(x, n)
	if e == api.OK && is != kind {
		return api.ErrType
	}
	return e
}

// CheckUpdates returns the error of a list of updates of n variables, for each of them in order: ErrRange if it is of none of the variables, ErrOrder if its variable is not greater than that of the one before, that of expression.Check for its value, or ErrType if this is not Int.
func CheckUpdates(l []api.Update, n int) api.Errno {
	for i, u := range l {
		if u.Variable < 0 || u.Variable >= n {
			return api.ErrRange
		}
		if i > 0 && u.Variable <= l[i-1].Variable {
			return api.ErrOrder
		}
		if e := checkType(u.Value, n, expression.Int); e != api.OK {
			return e
		}
	}
	return api.OK
}

// Compare compares moves by From, then Event.
func Compare(x, y api.Move) int {
	return cmp.Or(cmp.Compare(x.From, y.From), cmp.Compare(x.Event, y.Event))
}

// Copy returns a move that shares no memory with x.
func Copy(x api.Move) api.Move {
	x.Guard = copyOf(x.Guard)
	x.Updates = slices.Clone(x.Updates)
	for i, u := range x.Updates {
		x.Updates[i].Value = copyOf(u.Value)
	}
	return x
}

func copyOf(x api.Expr) api.Expr {
	x.Args = slices.Clone(x.Args)
	for i, argument := range x.Args {
		x.Args[i] = copyOf(argument)
	}
	return x
}

// Choose returns the one of the moves, which are in their order, that an event makes in a location, if there is one. All guards are evaluated: ErrOverflow of one of them comes before ErrChoice, which says that two are true.
func Choose(l []api.Move, location, event int, values []int) (chosen api.Move, possible bool, e api.Errno) {
	var open []api.Move
	for _, x := range between(l, location, event) {
		value, e := expression.Evaluate(x.Guard, values)
		if e != api.OK {
			return api.Move{}, false, e
		}
		if value == 1 {
			open = append(open, x)
		}
	}
	switch len(open) {
	case 0:
		return api.Move{}, false, api.OK
	case 1:
		return open[0], true, api.OK
	}
	return api.Move{}, false, api.ErrChoice
}

// between returns the moves from a location by an event.
func between(l []api.Move, location, event int) []api.Move {
	first, _ := slices.BinarySearchFunc(l, api.Move{From: location, Event: event}, Compare)
	after, _ := slices.BinarySearchFunc(l, api.Move{From: location, Event: event + 1}, Compare)
	return l[first:after]
}

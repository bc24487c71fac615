package expression

import (
	"slices"

	"overseer/alphabet"
	"overseer/api"
)

// CheckVariables returns the error of a list of variables.
func CheckVariables(l []api.Variable) api.Errno {
	if len(l) > MaxVariables {
		return api.ErrLimit
	}
	for i, v := range l {
		taken := slices.ContainsFunc(l[:i], func(w api.Variable) bool { return w.Name == v.Name })
		if e := checkVariable(v, taken); e != api.OK {
			return e
		}
	}
	return api.OK
}

func checkVariable(v api.Variable, taken bool) api.Errno {
	switch {
	case !alphabet.IsName(v.Name):
		return api.ErrName
	case taken:
		return api.ErrDuplicate
	case !isUpTo(v.Low, api.MaxValue) || !isUpTo(v.High, api.MaxValue):
		return api.ErrRange
	case v.Low > v.High:
		return api.ErrOrder
	case !has(v, v.Initial):
		return api.ErrRange
	}
	return api.OK
}

// isUpTo reports whether a number has at most a magnitude.
func isUpTo(x, magnitude int) bool {
	return -magnitude <= x && x <= magnitude
}

// has reports whether a value lies in the range of a variable.
func has(v api.Variable, value int) bool {
	return v.Low <= value && value <= v.High
}

// Within reports whether there is a value for each variable, in its range.
func Within(l []api.Variable, values []int) bool {
	if len(values) != len(l) {
		return false
	}
	for i, v := range l {
		if !has(v, values[i]) {
			return false
		}
	}
	return true
}

// All returns all lists of values of variables, in lexicographic order.
func All(l []api.Variable) ([][]int, api.Errno) {
	if e := CheckVariables(l); e != api.OK {
		return nil, e
	}
	all := [][]int{nil}
	for _, v := range l {
		if len(all)*(v.High-v.Low+1) > MaxAll {
			return nil, api.ErrLimit
		}
		all = extended(all, v)
	}
	return all, api.OK
}

// extended returns the lists in which a value of one more variable follows.
func extended(lists [][]int, v api.Variable) [][]int {
	var longer [][]int
	for _, values := range lists {
		for value := v.Low; value <= v.High; value++ {
			longer = append(longer, append(slices.Clone(values), value))
		}
	}
	return longer
}

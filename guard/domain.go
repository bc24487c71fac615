package guard

import (
	"overseer/api"
	"overseer/expression"
)

// checkDomain returns the error of expression.All, without listing the domain.
func checkDomain(l []api.Variable) api.Errno {
	if e := expression.CheckVariables(l); e != api.OK {
		return e
	}
	elements := 1
	for _, v := range l {
		elements *= size(v)
		if elements > expression.MaxAll {
			return api.ErrLimit
		}
	}
	return api.OK
}

// size returns the number of values of a variable.
func size(v api.Variable) int {
	return v.High - v.Low + 1
}

// place returns the index of values in the domain.
func place(l []api.Variable, values []int) int {
	before := 0
	for i, v := range l {
		before = before*size(v) + values[i] - v.Low
	}
	return before
}

// every reports whether a function is true for the places of all elements of the domain that a right box contains.
func every(l []api.Variable, box Box, is func(place int) bool) bool {
	var from func(i, before int) bool
	from = func(i, before int) bool {
		if i == len(l) {
			return is(before)
		}
		for value := box.Low[i]; value <= box.High[i]; value++ {
			if !from(i+1, before*size(l[i])+value-l[i].Low) {
				return false
			}
		}
		return true
	}
	return from(0, 0)
}

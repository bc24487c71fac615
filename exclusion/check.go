package exclusion

import (
	"overseer/alphabet"
	"overseer/api"
)

// Check returns the error of conditions.
func Check(c Conditions) api.Errno {
	if len(c.Sizes) > api.MaxComponents {
		return api.ErrLimit
	}
	for _, size := range c.Sizes {
		if size < 1 || size > api.MaxStates {
			return api.ErrRange
		}
	}
	if len(c.Exclusions) > MaxConditions || len(c.Constraints) > MaxConditions {
		return api.ErrLimit
	}
	if e := checkExclusions(c); e != api.OK {
		return e
	}
	return checkConstraints(c)
}

func checkExclusions(c Conditions) api.Errno {
	names := map[string]bool{}
	for _, x := range c.Exclusions {
		if e := checkName(x.Name, names); e != api.OK {
			return e
		}
		if len(x.Locals) == 0 {
			return api.ErrEmpty
		}
		before := -1
		for _, y := range x.Locals {
			if e := checkComponent(c.Sizes, before, y.Component); e != api.OK {
				return e
			}
			if !isState(c.Sizes, y.Component, y.State) {
				return api.ErrRange
			}
			before = y.Component
		}
	}
	return api.OK
}

func checkConstraints(c Conditions) api.Errno {
	names := map[string]bool{}
	for _, x := range c.Constraints {
		if e := checkName(x.Name, names); e != api.OK {
			return e
		}
		if len(x.Terms) == 0 {
			return api.ErrEmpty
		}
		before := -1
		for _, t := range x.Terms {
			if e := checkComponent(c.Sizes, before, t.Component); e != api.OK {
				return e
			}
			if t.Factor == 0 || !isValue(t.Factor) {
				return api.ErrRange
			}
			before = t.Component
		}
		if !isValue(x.Bound) {
			return api.ErrRange
		}
	}
	return api.OK
}

// checkName returns the error of a name of a condition, and adds it to the earlier ones.
func checkName(name string, earlier map[string]bool) api.Errno {
	switch {
	case !alphabet.IsName(name):
		return api.ErrName
	case earlier[name]:
		return api.ErrDuplicate
	}
	earlier[name] = true
	return api.OK
}

// checkComponent returns the error of a component that comes after another one; before is -1 for the first one.
func checkComponent(sizes []int, before, component int) api.Errno {
	switch {
	case component < 0 || component >= len(sizes):
		return api.ErrRange
	case component <= before:
		return api.ErrOrder
	}
	return api.OK
}

func isState(sizes []int, component, state int) bool {
	return state >= 0 && state < sizes[component]
}

// isValue reports whether a number has a magnitude up to api.MaxValue.
func isValue(n int) bool {
	return -api.MaxValue <= n && n <= api.MaxValue
}

// CheckTuple returns the error of a tuple of states.
func CheckTuple(c Conditions, tuple []int) api.Errno {
	if e := Check(c); e != api.OK {
		return e
	}
	return checkStates(c.Sizes, tuple)
}

// checkStates returns the error of a tuple under valid conditions.
func checkStates(sizes, tuple []int) api.Errno {
	if len(tuple) != len(sizes) {
		return api.ErrSize
	}
	for i, state := range tuple {
		if !isState(sizes, i, state) {
			return api.ErrRange
		}
	}
	return api.OK
}

// checkIndex returns the error of conditions that have a constraint of this index.
func checkIndex(c Conditions, index int) api.Errno {
	if e := Check(c); e != api.OK {
		return e
	}
	if index < 0 || index >= len(c.Constraints) {
		return api.ErrRange
	}
	return api.OK
}

// checkAll returns the error of conditions all of whose tuples are gone through.
func checkAll(c Conditions) api.Errno {
	if e := Check(c); e != api.OK {
		return e
	}
	tuples := 1 // at most MaxComponents factors of at most MaxStates would not fit into an int
	for _, size := range c.Sizes {
		tuples *= size
		if tuples > MaxTuples {
			return api.ErrLimit
		}
	}
	return api.OK
}

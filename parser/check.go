package parser

import (
	"slices"

	"overseer/alphabet"
	"overseer/api"
	"overseer/expression"
	"overseer/moves"
	"overseer/named"
)

// Check returns the error of a model.
func Check(m api.Model) api.Errno {
	if !alphabet.IsName(m.Name) {
		return api.ErrName
	}
	if e := alphabet.Check(m.Events); e != api.OK {
		return e
	}
	if len(m.Templates) > MaxTemplates || max(len(m.Components), len(m.Requirements), len(m.Exclusions), len(m.Constraints)) > MaxInstances {
		return api.ErrLimit
	}
	if e := checkNamed(m.Templates, func(x api.Template) string { return x.Name }, checkTemplate); e != api.OK {
		return e
	}
	instances := slices.Concat(m.Components, m.Requirements)
	if e := checkNamed(instances, func(x api.Instance) string { return x.Name }, checkInstance); e != api.OK {
		return e
	}
	if e := checkNamed(m.Exclusions, func(x api.NamedExclusion) string { return x.Name }, checkExclusion); e != api.OK {
		return e
	}
	return checkNamed(m.Constraints, func(x api.NamedConstraint) string { return x.Name }, checkConstraint)
}

// checkNamed returns the first error of a list of things with different names: that of the name comes before that of the thing.
func checkNamed[T any](l []T, name func(x T) string, check func(x T) api.Errno) api.Errno {
	_, e := named.Check(l, name, named.CheckName, func(_ int, x T) api.Errno { return check(x) })
	return e
}

// checkNames returns the error of a list of names that need not be different.
func checkNames(l ...string) api.Errno {
	for _, name := range l {
		if e := named.CheckName(name); e != api.OK {
			return e
		}
	}
	return api.OK
}

func checkTemplate(t api.Template) api.Errno {
	if e := named.CheckList(t.Events, named.CheckName); e != api.OK {
		return e
	}
	if e := named.CheckList(t.Locations, named.CheckName); e != api.OK {
		return e
	}
	m := t.Machine
	switch {
	case !slices.Equal(m.Alphabet, upTo(len(t.Events))):
		return api.ErrForm
	case m.Locations != len(t.Locations):
		return api.ErrSize
	case m.Initial < 0 || m.Initial >= max(m.Locations, 1):
		return api.ErrRange
	}
	if e := alphabet.CheckSet(m.Marked, m.Locations); e != api.OK {
		return e
	}
	if e := checkVariables(m.Variables); e != api.OK {
		return e
	}
	for _, x := range m.Moves {
		if e := checkMove(x, m); e != api.OK {
			return e
		}
	}
	return api.OK
}

// upTo returns the numbers from 0 to n - 1.
func upTo(n int) []int {
	var l []int
	for i := range n {
		l = append(l, i)
	}
	return l
}

func checkVariables(l []api.Variable) api.Errno {
	if e := expression.CheckVariables(l); e != api.OK {
		return e
	}
	for _, v := range l {
		if !isVariable(v.Name) {
			return api.ErrName
		}
	}
	return api.OK
}

// isVariable reports whether a variable can have a name.
func isVariable(name string) bool {
	return alphabet.IsName(name) && !isTruth(name)
}

// isTruth reports whether a word stands for True or False.
func isTruth(word string) bool {
	return word == "true" || word == "false"
}

// checkMove returns the error of a move of a machine in which all else has been checked.
func checkMove(x api.Move, m api.Extended) api.Errno {
	isLocation := func(location int) bool { return location >= 0 && location < m.Locations }
	if !isLocation(x.From) || x.Event < 0 || x.Event >= len(m.Alphabet) || !isLocation(x.To) {
		return api.ErrRange
	}
	if e := moves.CheckGuard(x.Guard, len(m.Variables)); e != api.OK {
		return e
	}
	return moves.CheckUpdates(x.Updates, len(m.Variables))
}

// checkInstance, checkExclusion and checkConstraint return the error of what has a right name.
func checkInstance(x api.Instance) api.Errno {
	if e := checkNames(x.Template); e != api.OK {
		return e
	}
	return checkNames(x.Events...)
}

func checkExclusion(x api.NamedExclusion) api.Errno {
	if len(x.Locals) == 0 {
		return api.ErrEmpty
	}
	for _, local := range x.Locals {
		if e := checkNames(local.Component, local.Location); e != api.OK {
			return e
		}
	}
	return api.OK
}

func checkConstraint(x api.NamedConstraint) api.Errno {
	if len(x.Terms) == 0 {
		return api.ErrEmpty
	}
	for _, term := range x.Terms {
		if e := checkNames(term.Component); e != api.OK {
			return e
		}
		if !isInteger(term.Factor) {
			return api.ErrRange
		}
	}
	if !isInteger(x.Bound) {
		return api.ErrRange
	}
	return api.OK
}

// isInteger reports whether a number can stand in a text.
func isInteger(x int) bool {
	return -api.MaxValue <= x && x <= api.MaxValue
}

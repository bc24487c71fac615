package document

import (
	"slices"

	"overseer/api"
)

// Items returns the items of a cell.
func Items(c api.Cell) ([]Item, api.Errno) {
	if !hasComponents(c) {
		return nil, api.ErrRange
	}
	var l []Item
	for _, x := range c.Components {
		l = append(l, Item{Kind: Component, Name: x.Name, Automaton: x.Automaton})
	}
	for _, x := range c.Requirements {
		l = append(l, Item{Kind: Requirement, Name: x.Name, Automaton: x.Automaton})
	}
	for _, x := range c.Exclusions {
		y := Item{Kind: Exclusion, Name: x.Name}
		for _, local := range x.Locals {
			y.Locals = append(y.Locals, Local{Component: c.Components[local.Component].Name, State: local.State})
		}
		l = append(l, y)
	}
	for _, x := range c.Constraints {
		y := Item{Kind: Constraint, Name: x.Name, Bound: x.Bound}
		for _, term := range x.Terms {
			y.Terms = append(y.Terms, Term{Component: c.Components[term.Component].Name, Factor: term.Factor})
		}
		l = append(l, y)
	}
	if e := Check(l); e != api.OK {
		return nil, e
	}
	return copyOf(l), api.OK
}

// hasComponents reports whether all components that exclusions and constraints refer to are there.
func hasComponents(c api.Cell) bool {
	is := func(i int) bool { return i >= 0 && i < len(c.Components) }
	for _, x := range c.Exclusions {
		if slices.ContainsFunc(x.Locals, func(y api.Local) bool { return !is(y.Component) }) {
			return false
		}
	}
	for _, x := range c.Constraints {
		if slices.ContainsFunc(x.Terms, func(y api.Term) bool { return !is(y.Component) }) {
			return false
		}
	}
	return true
}

// Cell returns the cell of some items.
func Cell(events []api.Event, l []Item) (api.Cell, api.Errno) {
	if e := Check(l); e != api.OK {
		return api.Cell{}, e
	}
	c := api.Cell{Events: slices.Clone(events)}
	for _, x := range copyOf(l) {
		if e := add(&c, x); e != api.OK {
			return api.Cell{}, e
		}
	}
	return c, api.OK
}

// add adds an item to a cell that has all components before anything that refers to one.
func add(c *api.Cell, x Item) api.Errno {
	switch x.Kind {
	case Component:
		c.Components = append(c.Components, api.Item{Name: x.Name, Automaton: x.Automaton})
	case Requirement:
		c.Requirements = append(c.Requirements, api.Item{Name: x.Name, Automaton: x.Automaton})
	case Exclusion:
		locals, e := arrange(c.Components, x.Locals, func(y Local) string { return y.Component }, func(i int, y Local) api.Local {
			return api.Local{Component: i, State: y.State}
		})
		c.Exclusions = append(c.Exclusions, api.Exclusion{Name: x.Name, Locals: locals})
		return e
	case Constraint:
		terms, e := arrange(c.Components, x.Terms, func(y Term) string { return y.Component }, func(i int, y Term) api.Term {
			return api.Term{Component: i, Factor: y.Factor}
		})
		c.Constraints = append(c.Constraints, api.Constraint{Name: x.Name, Terms: terms, Bound: x.Bound})
		return e
	}
	return api.OK
}

// arrange returns what a function makes of each element with the index of its component, in increasing order of these.
func arrange[T, R any](components []api.Item, l []T, name func(x T) string, with func(i int, x T) R) ([]R, api.Errno) {
	found := map[int]T{}
	for _, x := range l {
		i := slices.IndexFunc(components, func(y api.Item) bool { return y.Name == name(x) })
		if i < 0 {
			return nil, api.ErrUnknown
		}
		if _, taken := found[i]; taken {
			return nil, api.ErrDuplicate
		}
		found[i] = x
	}
	var arranged []R
	for i := range components {
		if x, is := found[i]; is {
			arranged = append(arranged, with(i, x))
		}
	}
	return arranged, api.OK
}

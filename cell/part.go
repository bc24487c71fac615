package cell

import (
	"cmp"
	"slices"

	"overseer/alphabet"
	"overseer/api"
)

// Part names some items and conditions of a cell by their indices.
type Part struct{ Components, Requirements, Exclusions, Constraints []int }

// Touched returns the components that share an event with a requirement.
func Touched(c api.Cell, requirement int) ([]int, api.Errno) {
	if e := Check(c); e != api.OK {
		return nil, e
	}
	if requirement < 0 || requirement >= len(c.Requirements) {
		return nil, api.ErrNotFound
	}
	events := c.Requirements[requirement].Automaton.Alphabet
	var touched []int
	for i, x := range c.Components {
		if len(alphabet.Intersect(x.Automaton.Alphabet, events)) > 0 {
			touched = append(touched, i)
		}
	}
	return touched, api.OK
}

// Select returns the cell of a part.
func Select(c api.Cell, p Part) (api.Cell, api.Errno) {
	if e := cmp.Or(Check(c), p.check(c)); e != api.OK {
		return api.Cell{}, e
	}
	c = copyOf(c)
	c.Components, c.Requirements = at(c.Components, p.Components), at(c.Requirements, p.Requirements)
	c.Exclusions, c.Constraints = at(c.Exclusions, p.Exclusions), at(c.Constraints, p.Constraints)
	if !p.renumber(c) {
		return api.Cell{}, api.ErrConflict
	}
	if e := Check(c); e != api.OK {
		return api.Cell{}, e
	}
	return c, api.OK
}

// check returns the error of a part of a cell.
func (p Part) check(c api.Cell) api.Errno {
	return cmp.Or(
		alphabet.CheckSet(p.Components, len(c.Components)),
		alphabet.CheckSet(p.Requirements, len(c.Requirements)),
		alphabet.CheckSet(p.Exclusions, len(c.Exclusions)),
		alphabet.CheckSet(p.Constraints, len(c.Constraints)),
	)
}

// at returns the elements of a list that have some indices.
func at[T any](l []T, indices []int) []T {
	var chosen []T
	for _, i := range indices {
		chosen = append(chosen, l[i])
	}
	return chosen
}

// renumber gives the components in the conditions of a cell the indices that they have in the part, and reports whether all of them are there.
func (p Part) renumber(c api.Cell) bool {
	whole := true
	give := func(component *int) {
		i, is := slices.BinarySearch(p.Components, *component)
		*component, whole = i, whole && is
	}
	for _, x := range c.Exclusions {
		for i := range x.Locals {
			give(&x.Locals[i].Component)
		}
	}
	for _, x := range c.Constraints {
		for i := range x.Terms {
			give(&x.Terms[i].Component)
		}
	}
	return whole
}

// copyOf returns a cell that shares no memory with c.
func copyOf(c api.Cell) api.Cell {
	c.Events = slices.Clone(c.Events)
	c.Components, c.Requirements = copyOfItems(c.Components), copyOfItems(c.Requirements)
	c.Exclusions, c.Constraints = slices.Clone(c.Exclusions), slices.Clone(c.Constraints)
	for i, x := range c.Exclusions {
		c.Exclusions[i].Locals = slices.Clone(x.Locals)
	}
	for i, x := range c.Constraints {
		c.Constraints[i].Terms = slices.Clone(x.Terms)
	}
	return c
}

func copyOfItems(l []api.Item) []api.Item {
	l = slices.Clone(l)
	for i, x := range l {
		a := &l[i].Automaton
		a.Alphabet, a.Marked, a.Edges = slices.Clone(x.Automaton.Alphabet), slices.Clone(x.Automaton.Marked), slices.Clone(x.Automaton.Edges)
	}
	return l
}

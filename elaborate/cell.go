package elaborate

import (
	"cmp"
	"slices"
	"strconv"

	"overseer/api"
	"overseer/extended"
	"overseer/flatten"
	"overseer/named"
)

// Cell returns the cell of a model, or the first error with the item that has it.
func Cell(m api.Model) (c api.Cell, at Place, e api.Errno) {
	if at, e := Check(m); e != api.OK {
		return api.Cell{}, at, e
	}
	b := building{model: m, components: indexOf(m, Component), taken: map[string]bool{}}
	b.cell.Events = slices.Clone(m.Events)
	for _, step := range []func() (Place, api.Errno){b.addInstances, b.addExclusions} {
		if at, e := step(); e != api.OK {
			return api.Cell{}, at, e
		}
	}
	for _, x := range m.Constraints {
		b.addConstraint(x)
	}
	return b.cell, Place{}, api.OK
}

// building is the part of the cell of a model that there is already.
type building struct {
	model      api.Model
	components named.Index
	origins    [][]extended.State // of the components
	taken      map[string]bool    // the names of the exclusions
	cell       api.Cell
}

func (b *building) addInstances() (Place, api.Errno) {
	for i, x := range b.model.Components {
		item, origins, e := b.unfold(x)
		if e != api.OK {
			return Place{Component, i}, e
		}
		b.cell.Components = append(b.cell.Components, item)
		b.origins = append(b.origins, origins)
	}
	for i, x := range b.model.Requirements {
		item, _, e := b.unfold(x)
		if e != api.OK {
			return Place{Requirement, i}, e
		}
		b.cell.Requirements = append(b.cell.Requirements, item)
	}
	return Place{}, api.OK
}

// unfold returns the item of an instance, and the origins of its states.
func (b *building) unfold(x api.Instance) (api.Item, []extended.State, api.Errno) {
	a, origins, e := flatten.Unfold(machineOf(b.model, x))
	return api.Item{Name: x.Name, Automaton: a}, origins, e
}

func (b *building) addExclusions() (Place, api.Errno) {
	for i, x := range b.model.Exclusions {
		if e := b.addExclusion(x); e != api.OK {
			return Place{Exclusion, i}, e
		}
	}
	return Place{}, api.OK
}

// choice is the states of a component of which an exclusion has one.
type choice struct {
	component int
	states    []int
}

func (b *building) addExclusion(x api.NamedExclusion) api.Errno {
	choices := b.choices(x)
	n := count(choices)
	switch {
	case n == 0: // the other choices can be too many to combine
		return api.OK
	case n > MaxConditions-len(b.cell.Exclusions):
		return api.ErrLimit
	}
	names := namesOf(x.Name, n)
	for _, name := range names {
		if len(name) > api.MaxName {
			return api.ErrName
		}
	}
	for i, locals := range combine(choices) {
		if b.taken[names[i]] {
			return api.ErrDuplicate
		}
		b.taken[names[i]] = true
		b.cell.Exclusions = append(b.cell.Exclusions, api.Exclusion{Name: names[i], Locals: locals})
	}
	return api.OK
}

// choices returns the choices of an exclusion, in increasing order of the components.
func (b *building) choices(x api.NamedExclusion) []choice {
	var l []choice
	for _, local := range x.Locals {
		i := b.components[local.Component]
		location := slices.Index(templateOf(b.model, b.model.Components[i]).Locations, local.Location)
		l = append(l, choice{component: i, states: flatten.At(b.origins[i], location)})
	}
	slices.SortFunc(l, func(x, y choice) int { return cmp.Compare(x.component, y.component) })
	return l
}

// count returns in how many ways a state of each choice can be taken, or a number above MaxConditions if there are more: the product could be too great for an int.
func count(l []choice) int {
	n := 1
	for _, x := range l {
		n = min(n, MaxConditions+1) * len(x.states)
	}
	return n
}

// combine returns all lists with a state of each choice, in lexicographic order.
func combine(l []choice) [][]api.Local {
	lists := [][]api.Local{nil}
	for _, x := range l {
		var longer [][]api.Local
		for _, list := range lists {
			for _, state := range x.states {
				longer = append(longer, append(slices.Clone(list), api.Local{Component: x.component, State: state}))
			}
		}
		lists = longer
	}
	return lists
}

// namesOf returns the names of the n exclusions that one of a model becomes.
func namesOf(name string, n int) []string {
	if n == 1 {
		return []string{name}
	}
	var names []string
	for i := range n {
		names = append(names, name+"_"+strconv.Itoa(i))
	}
	return names
}

func (b *building) addConstraint(x api.NamedConstraint) {
	y := api.Constraint{Name: x.Name, Bound: x.Bound}
	for _, term := range x.Terms {
		y.Terms = append(y.Terms, api.Term{Component: b.components[term.Component], Factor: term.Factor})
	}
	slices.SortFunc(y.Terms, func(x, y api.Term) int { return cmp.Compare(x.Component, y.Component) })
	b.cell.Constraints = append(b.cell.Constraints, y)
}

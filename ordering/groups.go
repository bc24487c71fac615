package ordering

import (
	"cmp"
	"slices"

	"overseer/alphabet"
	"overseer/api"
	"overseer/bdd"
)

// common is a multiple of all numbers up to MaxGroup, so that the centre of a group times it is a whole number.
const common = 840

// Span returns how far groups of variables extend in an order.
func Span(groups [][]int, order []int) (int, api.Errno) {
	if e := checkGroups(groups, order); e != api.OK {
		return 0, e
	}
	return spanOf(groups, order), api.OK
}

// checkGroups returns the error of groups of variables and an order of these.
func checkGroups(groups [][]int, order []int) api.Errno {
	if e := Check(order, len(order)); e != api.OK {
		return e
	}
	if len(groups) > MaxHyper {
		return api.ErrLimit
	}
	for _, group := range groups {
		switch e := alphabet.CheckSet(group, len(order)); {
		case len(group) == 0:
			return api.ErrEmpty
		case len(group) > MaxGroup:
			return api.ErrLimit
		case e != api.OK:
			return e
		}
	}
	return api.OK
}

func spanOf(groups [][]int, order []int) int {
	span := 0
	for _, ends := range endsOf(groups, order) {
		span += ends[1] - ends[0]
	}
	return span
}

// endsOf returns the least and the greatest position of the variables of each group.
func endsOf(groups [][]int, order []int) [][2]int {
	places := placesIn(order)
	var l [][2]int
	for _, group := range groups {
		first, last := bdd.MaxVariables, 0
		for _, variable := range group {
			first, last = min(first, places[variable]), max(last, places[variable])
		}
		l = append(l, [2]int{first, last})
	}
	return l
}

// Width returns how many groups extend over the same gap between two positions at most.
func Width(groups [][]int, order []int) (int, api.Errno) {
	if e := checkGroups(groups, order); e != api.OK {
		return 0, e
	}
	var over [bdd.MaxVariables]int
	for _, ends := range endsOf(groups, order) {
		for k := ends[0] + 1; k <= ends[1]; k++ {
			over[k]++
		}
	}
	return slices.Max(over[:]), api.OK
}

// Force returns the order to which some rounds of force lead, as long as each of them makes the span less.
func Force(groups [][]int, order []int, rounds int) ([]int, api.Errno) {
	if e := checkGroups(groups, order); e != api.OK {
		return nil, e
	}
	if rounds < 0 {
		return nil, api.ErrRange
	}
	best := slices.Clone(order)
	for span := spanOf(groups, best); rounds > 0; rounds-- {
		next := forced(groups, best)
		less := spanOf(groups, next)
		if less >= span {
			break
		}
		best, span = next, less
	}
	return best, api.OK
}

// forced returns the order after a round of force.
func forced(groups [][]int, order []int) []int {
	places := placesIn(order)
	var sums, counts positions
	for _, group := range groups {
		centre := 0
		for _, variable := range group {
			centre += places[variable] * common / len(group)
		}
		for _, variable := range group {
			sums[variable] += centre
			counts[variable]++
		}
	}
	for _, variable := range order {
		if counts[variable] == 0 {
			sums[variable], counts[variable] = places[variable]*common, 1
		}
	}
	next := slices.Clone(order)
	slices.SortStableFunc(next, func(x, y int) int { return cmp.Compare(sums[x]*counts[y], sums[y]*counts[x]) })
	return next
}

// Shared returns the groups of alphabets that have an event in common.
func Shared(alphabets [][]int) ([][]int, api.Errno) {
	if len(alphabets) > bdd.MaxVariables {
		return nil, api.ErrLimit
	}
	var owners [api.MaxEvents][]int
	for i, events := range alphabets {
		if e := alphabet.CheckSet(events, api.MaxEvents); e != api.OK {
			return nil, e
		}
		for _, event := range events {
			owners[event] = append(owners[event], i)
		}
	}
	var groups [][]int
	for _, group := range owners {
		if len(group) > MaxGroup {
			return nil, api.ErrLimit
		}
		if len(group) > 1 {
			groups = append(groups, group)
		}
	}
	return groups, api.OK
}

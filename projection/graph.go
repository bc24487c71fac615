package projection

import (
	"slices"

	"overseer/api"
)

// flags tells of each event whether it belongs to a set.
type flags [api.MaxEvents]bool

func flagsOf(events []int) flags {
	var f flags
	for _, x := range events {
		f[x] = true
	}
	return f
}

// graph is the list of the edges that leave each state, in order.
type graph [][]api.Edge

// graphOf cuts the sorted list of edges into those of each state.
func graphOf(a api.Automaton) graph {
	g := make(graph, a.States)
	rest := a.Edges
	for s := range g {
		n := 0
		for n < len(rest) && rest[n].From == s {
			n++
		}
		g[s], rest = rest[:n], rest[n:]
	}
	return g
}

// spread returns the states to which words of some events lead from some states, in increasing order.
func (g graph) spread(from []int, events flags) []int {
	var found []int
	seen := make([]bool, len(g))
	find := func(s int) {
		if !seen[s] {
			seen[s] = true
			found = append(found, s)
		}
	}
	for _, s := range from {
		find(s)
	}
	for i := 0; i < len(found); i++ {
		for _, x := range g[found[i]] {
			if events[x.Event] {
				find(x.To)
			}
		}
	}
	slices.Sort(found)
	return found
}

// targets returns for each event the states to which it leads from some states. A state is named as often as edges lead to it.
func (g graph) targets(from []int) [api.MaxEvents][]int {
	var targets [api.MaxEvents][]int
	for _, s := range from {
		for _, x := range g[s] {
			targets[x.Event] = append(targets[x.Event], x.To)
		}
	}
	return targets
}

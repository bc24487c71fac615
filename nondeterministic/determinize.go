package nondeterministic

import (
	"slices"

	"overseer/api"
)

// Determinize returns the deterministic automaton with the same languages, with the set of states that each of its states is.
func Determinize(a api.Nondeterministic) (api.Automaton, [][]int, api.Errno) {
	if e := Check(a); e != api.OK {
		return api.Automaton{}, nil, e
	}
	sets, edges, e := subsets(a)
	if e != api.OK {
		return api.Automaton{}, nil, e
	}
	d := api.Automaton{Alphabet: slices.Clone(a.Alphabet), States: len(sets), Edges: edges}
	marked := statesOf(a.Marked)
	lists := make([][]int, 0, len(sets))
	for i, set := range sets {
		if set.meets(marked) {
			d.Marked = append(d.Marked, i)
		}
		lists = append(lists, set.list())
	}
	return d, lists, api.OK
}

// subsets returns the sets of states that words reach, but for the empty one, in the order in which they are found breadth first, and the edges between them.
func subsets(a api.Nondeterministic) ([]states, []api.Edge, api.Errno) {
	var sets []states
	number := map[string]int{}
	find := func(set states) int {
		text := set.text()
		n, known := number[text]
		if !known {
			n = len(sets)
			number[text] = n
			sets = append(sets, set)
		}
		return n
	}
	cut := cutterOf(a)
	if len(a.Initial) > 0 {
		find(cut.closure(statesOf(a.Initial)))
	}
	var edges []api.Edge
	for n := 0; n < len(sets); n++ {
		if len(sets) > api.MaxStates {
			return nil, nil, api.ErrLimit
		}
		for _, x := range a.Alphabet {
			if next := cut.step(sets[n], x); next != (states{}) {
				edges = append(edges, api.Edge{From: n, Event: x, To: find(next)})
			}
		}
	}
	return sets, edges, api.OK
}

// cutter cuts the edges from a state by an event out of the sorted list of edges.
type cutter func(state, event int) []api.Edge

// cutterOf returns the cutter of an automaton. It knows where the edges of each state and event begin, because those of large sets of states are cut again and again.
func cutterOf(a api.Nondeterministic) cutter {
	const kinds = api.MaxEvents + 1
	place := func(state, event int) int { return state*kinds + event - api.Silent }
	starts := make([]int, a.States*kinds+1)
	for _, x := range a.Edges {
		starts[place(x.From, x.Event)+1]++
	}
	for i := 1; i < len(starts); i++ {
		starts[i] += starts[i-1]
	}
	return func(state, event int) []api.Edge {
		i := place(state, event)
		return a.Edges[starts[i]:starts[i+1]]
	}
}

// closure adds to a set the states that silent edges reach from it.
func (cut cutter) closure(set states) states {
	queue := set.list()
	for i := 0; i < len(queue); i++ {
		for _, x := range cut(queue[i], api.Silent) {
			if set.add(x.To) {
				queue = append(queue, x.To)
			}
		}
	}
	return set
}

// step returns what an event reaches from a set that is its own closure.
func (cut cutter) step(set states, event int) states {
	var next states
	for s := range set.all() {
		for _, x := range cut(s, event) {
			next.add(x.To)
		}
	}
	return cut.closure(next)
}

package network

import (
	"slices"

	"overseer/alphabet"
	"overseer/product"
	"overseer/sets"
)

// states, initial and marked return states of an automaton: all, the initial one, and the marked ones.
func (l layout) states(i int) []int {
	states := make([]int, l.Automata[i].States)
	for state := range states {
		states[state] = state
	}
	return states
}

func (l layout) initial(i int) []int { return l.states(i)[:min(l.Automata[i].States, 1)] }
func (l layout) marked(i int) []int  { return l.Automata[i].Marked }

// combined returns what an operation makes of the automata, which it is given from the last one in the order to the first one, each with what it has made of those behind.
func (l layout) combined(op func(i, rest int) int) int {
	k := 1
	for _, i := range slices.Backward(l.Order) {
		k = op(i, k)
	}
	return k
}

// tuples returns the set of the tuples with some states of each automaton.
func (l layout) tuples(s sets.Store, statesOf func(i int) []int) int {
	return l.combined(func(i, rest int) int { return s.Codes(l.first[i], l.bits[i], statesOf(i), rest) })
}

// events returns the events of all automata.
func (l layout) events() []int {
	events, _ := product.Alphabet(l.Automata)
	return events
}

// edgesBy returns the edges of an automaton by an event. If it does not have the event, these lead from each state to itself.
func (l layout) edgesBy(i, event int) [][2]int {
	var edges [][2]int
	if !alphabet.Contains(l.Automata[i].Alphabet, event) {
		for _, state := range l.states(i) {
			edges = append(edges, [2]int{state, state})
		}
		return edges
	}
	for _, x := range l.Automata[i].Edges {
		if x.Event == event {
			edges = append(edges, [2]int{x.From, x.To})
		}
	}
	return edges
}

// steps returns the relation of the steps by an event.
func (l layout) steps(s sets.Store, event int) int {
	return l.combined(func(i, rest int) int {
		return s.Codes(2*l.first[i], 2*l.bits[i], sets.Pairs(l.bits[i], l.edgesBy(i, event)), rest)
	})
}

// enabled returns the set of the tuples in which an event is possible.
func (l layout) enabled(s sets.Store, event int) int {
	return l.tuples(s, func(i int) []int {
		var states []int
		for _, x := range l.edgesBy(i, event) {
			states = append(states, x[0])
		}
		return states
	})
}

// allSteps returns the relations of the steps by each event.
func (l layout) allSteps(s sets.Store) []int {
	var steps []int
	for _, event := range l.events() {
		steps = append(steps, l.steps(s, event))
	}
	return steps
}

// reached returns the set of the tuples that are reached by some steps, and the number of rounds.
func (l layout) reached(s sets.Store, steps []int) (f, rounds int) {
	return s.Spread(l.tuples(s, l.initial), func(fresh int) int { return unite(s, steps, fresh, sets.Store.Image) })
}

// unite returns the union of what an operation makes of each of some relations and a set.
func unite(s sets.Store, relations []int, f int, op func(s sets.Store, r, f int) int) int {
	k := 0
	for _, r := range relations {
		k = s.Or(k, op(s, r, f))
	}
	return k
}

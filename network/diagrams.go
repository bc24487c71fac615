package network

import (
	"cmp"

	"overseer/alphabet"
	"overseer/api"
	"overseer/bdd"
	"overseer/sets"
)

// Valid returns the diagram of all tuples.
func Valid(n Network) (bdd.Diagram, api.Errno) {
	return setOf(n, layout.states)
}

// Initial returns the diagram of the initial tuple.
func Initial(n Network) (bdd.Diagram, api.Errno) {
	return setOf(n, layout.initial)
}

// Marked returns the diagram of the marked tuples.
func Marked(n Network) (bdd.Diagram, api.Errno) {
	return setOf(n, layout.marked)
}

// setOf returns the diagram of the tuples with some states of each automaton.
func setOf(n Network, statesOf func(l layout, i int) []int) (bdd.Diagram, api.Errno) {
	l, e := layoutOf(n)
	if e != api.OK {
		return bdd.Diagram{}, e
	}
	s := sets.New()
	return s.Diagram(l.total, l.tuples(s, func(i int) []int { return statesOf(l, i) }))
}

// Local returns the diagram of the tuples with one of some states of an automaton.
func Local(n Network, automaton int, states []int) (bdd.Diagram, api.Errno) {
	if e := Check(n); e != api.OK {
		return bdd.Diagram{}, e
	}
	if automaton < 0 || automaton >= len(n.Automata) {
		return bdd.Diagram{}, api.ErrNotFound
	}
	if e := alphabet.CheckSet(states, n.Automata[automaton].States); e != api.OK {
		return bdd.Diagram{}, e
	}
	return setOf(n, func(l layout, i int) []int {
		if i == automaton {
			return states
		}
		return l.states(i)
	})
}

// Relation returns the relation of the steps by some events.
func Relation(n Network, events []int) (bdd.Diagram, api.Errno) {
	return united(n, events, 2, layout.steps)
}

// Enabled returns the diagram of the tuples in which one of some events is possible.
func Enabled(n Network, events []int) (bdd.Diagram, api.Errno) {
	return united(n, events, 1, layout.enabled)
}

// united returns the diagram, with some variables for each bit, of what belongs to one of some events.
func united(n Network, events []int, variables int, of func(l layout, s sets.Store, event int) int) (bdd.Diagram, api.Errno) {
	l, e := layoutOf(n)
	if e := cmp.Or(e, alphabet.CheckSet(events, api.MaxEvents)); e != api.OK {
		return bdd.Diagram{}, e
	}
	s := sets.New()
	k := 0
	for _, event := range alphabet.Intersect(events, l.events()) {
		k = s.Or(k, of(l, s, event))
	}
	return s.Diagram(variables*l.total, k)
}

// Reached returns the tuples that are reached from the initial one, with the number of rounds.
func Reached(n Network) (f bdd.Diagram, rounds int, e api.Errno) {
	l, e := layoutOf(n)
	if e != api.OK {
		return bdd.Diagram{}, 0, e
	}
	s := sets.New()
	k, rounds := l.reached(s, l.allSteps(s))
	f, e = s.Diagram(l.total, k)
	if e != api.OK {
		return bdd.Diagram{}, 0, e
	}
	return f, rounds, api.OK
}

// Blocked returns the tuples that are reached from which no marked one is reached.
func Blocked(n Network) (bdd.Diagram, api.Errno) {
	l, e := layoutOf(n)
	if e != api.OK {
		return bdd.Diagram{}, e
	}
	s := sets.New()
	steps := l.allSteps(s)
	reached, _ := l.reached(s, steps)
	marked := s.And(reached, l.tuples(s, l.marked))
	free, _ := s.Spread(marked, func(fresh int) int {
		return s.And(reached, unite(s, steps, fresh, sets.Store.Preimage))
	})
	return s.Diagram(l.total, s.Minus(reached, free))
}

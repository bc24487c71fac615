package product

import (
	"cmp"
	"slices"

	"overseer/alphabet"
	"overseer/api"
)

// states is a tuple: a state of each automaton of a list, and 0 behind them. So the initial tuple of each list is states{}.
type states [api.MaxAutomata]int

func statesOf(tuple []int) states {
	var t states
	copy(t[:], tuple)
	return t
}

// list returns the states of the first n automata.
func (t states) list(n int) []int {
	return slices.Clone(t[:n])
}

// hasInitial reports whether there is an initial tuple.
func hasInitial(l []api.Automaton) bool {
	return !slices.ContainsFunc(l, func(a api.Automaton) bool { return a.States == 0 })
}

func isMarked(l []api.Automaton, t states) bool {
	for i, a := range l {
		if !alphabet.Contains(a.Marked, t[i]) {
			return false
		}
	}
	return true
}

// eventsOf returns the union of the alphabets of all automata.
func eventsOf(l []api.Automaton) []int {
	var events []int
	for _, a := range l {
		events = alphabet.Union(events, a.Alphabet)
	}
	return events
}

// stepper makes the steps of all automata by an event. It returns the next tuple, and a bit for each automaton that refuses the event; if there are any, the tuple has no meaning.
type stepper func(t states, event int) (next states, refusers uint32)

func stepsOf(l []api.Automaton) stepper {
	return func(t states, event int) (states, uint32) {
		var refusers uint32
		for i, a := range l {
			if !alphabet.Contains(a.Alphabet, event) {
				continue
			}
			to, possible := target(a.Edges, t[i], event)
			if !possible {
				refusers |= 1 << i
			}
			t[i] = to
		}
		return t, refusers
	}
}

// target returns the state to which an event leads from a state.
func target(edges []api.Edge, state, event int) (to int, possible bool) {
	i, possible := slices.BinarySearchFunc(edges, api.Edge{From: state, Event: event}, compareEdges)
	if !possible {
		return 0, false
	}
	return edges[i].To, true
}

// compareEdges compares edges by From, then Event.
func compareEdges(x, y api.Edge) int {
	if n := cmp.Compare(x.From, y.From); n != 0 {
		return n
	}
	return cmp.Compare(x.Event, y.Event)
}

// explore returns the tuples that are reached, in the order in which they are found breadth first, and the edges between them.
func explore(l []api.Automaton) ([]states, []api.Edge, api.Errno) {
	var found []states
	numbers := map[states]int{}
	number := func(t states) int {
		n, known := numbers[t]
		if !known {
			n = len(found)
			numbers[t] = n
			found = append(found, t)
		}
		return n
	}
	if hasInitial(l) {
		number(states{})
	}
	var edges []api.Edge
	events, step := eventsOf(l), stepsOf(l)
	for n := 0; n < len(found); n++ {
		for _, x := range events {
			if next, refusers := step(found[n], x); refusers == 0 {
				edges = append(edges, api.Edge{From: n, Event: x, To: number(next)})
			}
		}
		if len(found) > api.MaxStates {
			return nil, nil, api.ErrLimit
		}
	}
	return found, edges, api.OK
}

package flatten

import (
	"slices"

	"overseer/alphabet"
	"overseer/api"
	"overseer/expression"
	"overseer/moves"
)

// joint is a joint list, which makes steps from origins of it.
type joint []api.Extended

// events returns the union of all alphabets.
func (l joint) events() []int {
	var events []int
	for _, m := range l {
		events = alphabet.Union(events, m.Alphabet)
	}
	return events
}

func (l joint) start() Origin {
	var o Origin
	for _, m := range l {
		o.Locations = append(o.Locations, m.Initial)
	}
	for _, v := range l[0].Variables {
		o.Values = append(o.Values, v.Initial)
	}
	return o
}

func (l joint) isMarked(o Origin) bool {
	for i, m := range l {
		if !alphabet.Contains(m.Marked, o.Locations[i]) {
			return false
		}
	}
	return true
}

// step returns the origin to which an event leads, whether it is possible, and the error of the model.
func (l joint) step(at Origin, event int) (next Origin, possible bool, e api.Errno) {
	next.Locations = slices.Clone(at.Locations)
	var updates []api.Update
	possible = true
	for i, m := range l {
		if !alphabet.Contains(m.Alphabet, event) {
			continue
		}
		x, is, e := moves.Choose(m.Moves, at.Locations[i], event, at.Values)
		if e != api.OK {
			return Origin{}, false, e
		}
		possible = possible && is // the others are looked at nevertheless: their errors come first
		next.Locations[i] = x.To
		updates = append(updates, x.Updates...)
	}
	if !possible {
		return Origin{}, false, api.OK
	}
	next.Values, e = assign(l[0].Variables, at.Values, updates)
	if e != api.OK {
		return Origin{}, false, e
	}
	return next, true, api.OK
}

// assign returns the values after updates, of which several can be of one variable if they give it the same value.
func assign(variables []api.Variable, values []int, updates []api.Update) ([]int, api.Errno) {
	next := slices.Clone(values)
	given := map[int]int{}
	for _, u := range updates {
		value, e := expression.Evaluate(u.Value, values)
		if e != api.OK {
			return nil, e
		}
		if v := variables[u.Variable]; value < v.Low || value > v.High {
			return nil, api.ErrOverflow
		}
		if earlier, is := given[u.Variable]; is && earlier != value {
			return nil, api.ErrConflict
		}
		given[u.Variable] = value
		next[u.Variable] = value
	}
	return next, api.OK
}

// numbers is the locations and values of an origin, and 0 behind them: origins of one joint list differ in them.
type numbers [api.MaxAutomata + expression.MaxVariables]int

func numbersOf(o Origin) numbers {
	var n numbers
	copy(n[copy(n[:], o.Locations):], o.Values)
	return n
}

// unfold returns the automaton of the origins that are reached, in the order in which they are found breadth first. The first error that is met ends the search.
func unfold(l joint) (a api.Automaton, origins []Origin, e api.Errno) {
	known := map[numbers]int{}
	state := func(o Origin) (int, api.Errno) {
		n, is := known[numbersOf(o)]
		if is {
			return n, api.OK
		}
		n = len(origins)
		if n == api.MaxStates {
			return 0, api.ErrLimit
		}
		known[numbersOf(o)] = n
		origins = append(origins, o)
		if l.isMarked(o) {
			a.Marked = append(a.Marked, n)
		}
		return n, api.OK
	}
	a.Alphabet = l.events()
	state(l.start())
	for n := 0; n < len(origins); n++ {
		for _, event := range a.Alphabet {
			next, possible, e := l.step(origins[n], event)
			if e != api.OK {
				return api.Automaton{}, nil, e
			}
			if !possible {
				continue
			}
			to, e := state(next)
			if e != api.OK {
				return api.Automaton{}, nil, e
			}
			a.Edges = append(a.Edges, api.Edge{From: n, Event: event, To: to})
		}
	}
	a.States = len(origins)
	return a, origins, api.OK
}

package extended

import (
	"slices"

	"overseer/api"
	"overseer/expression"
	"overseer/moves"
)

// machine is a valid extended automaton, which makes steps from states of it.
type machine api.Extended

func (m machine) start() State {
	s := State{Location: m.Initial}
	for _, v := range m.Variables {
		s.Values = append(s.Values, v.Initial)
	}
	return s
}

// step returns the state to which an event leads, whether it is possible, and the error of the model.
func (m machine) step(s State, event int) (next State, possible bool, e api.Errno) {
	x, possible, e := moves.Choose(m.Moves, s.Location, event, s.Values)
	if e != api.OK || !possible {
		return State{}, false, e
	}
	next = State{Location: x.To, Values: slices.Clone(s.Values)}
	for _, u := range x.Updates {
		value, e := expression.Evaluate(u.Value, s.Values)
		if e != api.OK {
			return State{}, false, e
		}
		next.Values[u.Variable] = value
	}
	if !expression.Within(m.Variables, next.Values) {
		return State{}, false, api.ErrOverflow
	}
	return next, true, api.OK
}

package extended

import (
	"slices"

	"overseer/api"
	"overseer/expression"
)

// machine is a valid extended automaton, which makes steps from states of it.
type machine api.Extended

func (m machine) start() State {
	s := State{Location: m.Initial}
	for _, v := range m.Variables {
		s.Values = append(s.Values, v.Initial)
	}
	return s
}

// step returns the state to which an event leads, whether it is possible, and the error of the model.
func (m machine) step(s State, event int) (next State, possible bool, e api.Errno) {
	x, possible, e := m.choose(s, event)
	if e != api.OK || !possible {
		return State{}, false, e
	}
	next = State{Location: x.To, Values: slices.Clone(s.Values)}
	for _, u := range x.Updates {
		value, e := expression.Evaluate(u.Value, s.Values)
		if e != api.OK {
			return State{}, false, e
		}
		next.Values[u.Variable] = value
	}
	if !expression.Within(m.Variables, next.Values) {
		return State{}, false, api.ErrOverflow
	}
	return next, true, api.OK
}

// choose returns the move that an event makes in a state, if there is one. All guards are evaluated: that one overflows comes before that two are true.
func (m machine) choose(s State, event int) (chosen api.Move, possible bool, e api.Errno) {
	var open []api.Move
	for _, x := range m.from(s.Location, event) {
		value, e := expression.Evaluate(x.Guard, s.Values)
		if e != api.OK {
			return api.Move{}, false, e
		}
		if value == 1 {
			open = append(open, x)
		}
	}
	switch len(open) {
	case 0:
		return api.Move{}, false, api.OK
	case 1:
		return open[0], true, api.OK
	}
	return api.Move{}, false, api.ErrChoice
}

// from returns the moves from a location by an event.
func (m machine) from(location, event int) []api.Move {
	first, found := slices.BinarySearchFunc(m.Moves, api.Move{From: location, Event: event}, compare)
	if !found {
		return nil
	}
	after := first
	for after < len(m.Moves) && compare(m.Moves[after], m.Moves[first]) == 0 {
		after++
	}
	return m.Moves[first:after]
}

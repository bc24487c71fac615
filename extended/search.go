package extended

import (
	"slices"
	"strconv"

	"overseer/api"
)

// visit is a state that a search has found, by an event from the state of an earlier visit. For the first one, before is -1.
type visit struct {
	state         State
	event, before int
}

// search goes through the states that are reached, breadth first, with a function that makes steps, and hands over the steps with an error of the model.
func search(from State, events []int, step func(s State, event int) (next State, possible bool, e api.Errno), fail func(at, event int, kind api.Errno)) ([]visit, api.Errno) {
	visits := []visit{{state: from, before: -1}}
	known := map[string]bool{text(from): true}
	for i := 0; i < len(visits); i++ {
		for _, event := range events {
			next, possible, e := step(visits[i].state, event)
			if e != api.OK {
				fail(i, event, e)
			}
			if !possible || known[text(next)] {
				continue
			}
			if len(visits) == api.MaxStates {
				return nil, api.ErrLimit
			}
			known[text(next)] = true
			visits = append(visits, visit{next, event, i})
		}
	}
	return visits, api.OK
}

// text returns a text that no other state has.
func text(s State) string {
	b := strconv.AppendInt(nil, int64(s.Location), 10)
	for _, value := range s.Values {
		b = append(b, ' ')
		b = strconv.AppendInt(b, int64(value), 10)
	}
	return string(b)
}

// fault is an error of the model: its kind, and the visit and the event of its step.
type fault struct {
	kind      api.Errno
	at, event int
}

// keep takes over an error, if it is the first one.
func (f *fault) keep(at, event int, kind api.Errno) {
	if f.kind == api.OK {
		*f = fault{kind, at, event}
	}
}

// explore searches all states that are reached, and the first error of the model.
func explore(m api.Extended) (visits []visit, first fault, e api.Errno) {
	if e := Check(m); e != api.OK {
		return nil, fault{}, e
	}
	visits, e = search(machine(m).start(), m.Alphabet, machine(m).step, first.keep)
	return visits, first, e
}

// Reach returns the states that are reached, in the order in which they are found.
func Reach(m api.Extended) ([]State, api.Errno) {
	visits, _, e := explore(m)
	var states []State
	for _, v := range visits {
		states = append(states, v.state)
	}
	return states, e
}

// Fault returns the least run whose last step has an error of the model, and its kind.
func Fault(m api.Extended) (run []int, found bool, kind, e api.Errno) {
	visits, first, e := explore(m)
	if e != api.OK || first.kind == api.OK {
		return nil, false, api.OK, e
	}
	run = []int{first.event}
	for i := first.at; visits[i].before >= 0; i = visits[i].before {
		run = append(run, visits[i].event)
	}
	slices.Reverse(run)
	return run, true, first.kind, api.OK
}

package elaborate

import (
	"slices"
	"strconv"
	"strings"

	"overseer/api"
	"overseer/extended"
	"overseer/flatten"
	"overseer/moves"
)

// instancesOf returns the components or the requirements.
func instancesOf(m api.Model, kind int) []api.Instance {
	if kind == Component {
		return m.Components
	}
	return m.Requirements
}

// templateOf returns the template of an instance that has one.
func templateOf(m api.Model, x api.Instance) api.Template {
	return m.Templates[indexOf(m, Template)[x.Template]]
}

// instanceAt returns the instance at a place, or the error of the model or the place.
func instanceAt(m api.Model, at Place) (api.Instance, api.Errno) {
	if _, e := Check(m); e != api.OK {
		return api.Instance{}, e
	}
	if at.Kind != Component && at.Kind != Requirement {
		return api.Instance{}, api.ErrKind
	}
	l := instancesOf(m, at.Kind)
	if at.Index < 0 || at.Index >= len(l) {
		return api.Instance{}, api.ErrNotFound
	}
	return l[at.Index], api.OK
}

// Machine returns the extended automaton of an instance with the events of the model.
func Machine(m api.Model, at Place) (api.Extended, api.Errno) {
	x, e := instanceAt(m, at)
	if e != api.OK {
		return api.Extended{}, e
	}
	return machineOf(m, x), api.OK
}

func machineOf(m api.Model, x api.Instance) api.Extended {
	template := templateOf(m, x).Machine
	machine := template
	index := indexOf(m, Event)
	var events []int // in the order of the template
	for _, name := range x.Events {
		events = append(events, index[name])
	}
	machine.Moves = nil
	for _, move := range template.Moves {
		move = moves.Copy(move)
		move.Event = events[move.Event]
		machine.Moves = append(machine.Moves, move)
	}
	slices.SortStableFunc(machine.Moves, moves.Compare)
	machine.Alphabet = slices.Sorted(slices.Values(events))
	machine.Marked = slices.Clone(template.Marked)
	machine.Variables = slices.Clone(template.Variables)
	return machine
}

// Origins returns what the states of the automaton of an instance are.
func Origins(m api.Model, at Place) ([]extended.State, api.Errno) {
	machine, e := Machine(m, at)
	if e != api.OK {
		return nil, e
	}
	_, origins, e := flatten.Unfold(machine)
	return origins, e
}

// label is the text of a state while it is put together.
type label struct{ strings.Builder }

// value adds a variable with its value.
func (l *label) value(name string, value int) {
	l.WriteByte(' ')
	l.WriteString(name)
	l.WriteByte('=')
	l.WriteString(strconv.Itoa(value))
}

// Label returns the text of a state of an instance.
func Label(m api.Model, at Place, s extended.State) (string, api.Errno) {
	x, e := instanceAt(m, at)
	if e != api.OK {
		return "", e
	}
	template := templateOf(m, x)
	if e := extended.CheckState(template.Machine, s); e != api.OK {
		return "", e
	}
	var l label
	l.WriteString(template.Locations[s.Location])
	for i, v := range template.Machine.Variables {
		l.value(v.Name, s.Values[i])
	}
	return l.String(), api.OK
}

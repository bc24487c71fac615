package document

import (
	"strconv"
	"strings"

	"overseer/alphabet"
	"overseer/api"
	"overseer/automaton"
)

// Text returns the text of an item, with the names of events.
func Text(events []api.Event, x Item) (string, api.Errno) {
	if e := alphabet.Check(events); e != api.OK {
		return "", e
	}
	if e := Check([]Item{x}); e != api.OK {
		return "", e
	}
	if e := automaton.Check(x.Automaton); e != api.OK {
		return "", e
	}
	if e := alphabet.CheckSet(x.Automaton.Alphabet, len(events)); e != api.OK {
		return "", e
	}
	s := textOf(events, x)
	if len(s) > api.MaxText {
		return "", api.ErrLong
	}
	return s, api.OK
}

func textOf(events []api.Event, x Item) string {
	switch x.Kind {
	case Component:
		return "component " + x.Name + automatonText(events, x.Automaton)
	case Requirement:
		return "requirement " + x.Name + automatonText(events, x.Automaton)
	case Exclusion:
		var parts []string
		for _, y := range x.Locals {
			parts = append(parts, " "+y.Component+"="+strconv.Itoa(y.State))
		}
		return "exclude " + x.Name + ":" + strings.Join(parts, ",") + "\n"
	}
	var parts []string
	for _, y := range x.Terms {
		parts = append(parts, " "+strconv.Itoa(y.Factor)+"*"+y.Component)
	}
	return "limit " + x.Name + ":" + strings.Join(parts, " +") + " <= " + strconv.Itoa(x.Bound) + "\n"
}

// automatonText returns the events in the line of the name, and a line for each state.
func automatonText(events []api.Event, a api.Automaton) string {
	var b strings.Builder
	for _, event := range a.Alphabet {
		b.WriteString(" " + events[event].Name)
	}
	b.WriteString("\n")
	edges := a.Edges
	for state := range a.States {
		b.WriteString("  " + strconv.Itoa(state))
		if alphabet.Contains(a.Marked, state) {
			b.WriteString(" marked")
		}
		for len(edges) > 0 && edges[0].From == state {
			b.WriteString(" " + events[edges[0].Event].Name + ">" + strconv.Itoa(edges[0].To))
			edges = edges[1:]
		}
		b.WriteString("\n")
	}
	return b.String()
}

package requirement

import (
	"math/bits"
	"slices"

	"overseer/alphabet"
	"overseer/api"
)

// Limits of patterns.
const (
	MaxCapacity = 1024
	MaxPhases   = 10
)

// Phase is entered by an event, and left by another one.
type Phase struct{ Enter, Leave int }

// pattern returns the canonical automaton of a pattern without marked states. The step says to which state an event leads from a state; 0 is the initial one, and the others can be any numbers.
func pattern(events []int, step func(state, event int) (next int, possible bool)) api.Automaton {
	a := api.Automaton{Alphabet: slices.Clone(events)}
	found, numbers := []int{0}, map[int]int{0: 0}
	for n := 0; n < len(found); n++ {
		for _, event := range events {
			next, possible := step(found[n], event)
			if !possible {
				continue
			}
			to, known := numbers[next]
			if !known {
				to = len(found)
				numbers[next] = to
				found = append(found, next)
			}
			a.Edges = append(a.Edges, api.Edge{From: n, Event: event, To: to})
		}
	}
	a.States = len(found)
	return a
}

// markFirst marks the state 0 alone.
func markFirst(a api.Automaton) api.Automaton {
	a.Marked = []int{0}
	return a
}

// markAll makes a safety requirement.
func markAll(a api.Automaton) api.Automaton {
	a.Marked = nil
	for state := range a.States {
		a.Marked = append(a.Marked, state)
	}
	return a
}

// Alternate returns the requirement that events occur in turn.
func Alternate(events []int) (api.Automaton, api.Errno) {
	if len(events) == 0 {
		return api.Automaton{}, api.ErrEmpty
	}
	if e := checkDifferent(events); e != api.OK {
		return api.Automaton{}, e
	}
	a := pattern(slices.Sorted(slices.Values(events)), func(state, event int) (int, bool) {
		return (state + 1) % len(events), event == events[state]
	})
	return markFirst(a), api.OK
}

// checkDifferent returns the error of a list of different events in any order.
func checkDifferent(events []int) api.Errno {
	for i, event := range events {
		switch {
		case !isEvent(event):
			return api.ErrRange
		case slices.Contains(events[:i], event):
			return api.ErrDuplicate
		}
	}
	return api.OK
}

func isEvent(event int) bool {
	return event >= 0 && event < api.MaxEvents
}

// checkApart returns the error of two sets of events that must have none in common.
func checkApart(a, b []int) api.Errno {
	for _, set := range [][]int{a, b} {
		if e := alphabet.CheckSet(set, api.MaxEvents); e != api.OK {
			return e
		}
	}
	if len(alphabet.Intersect(a, b)) > 0 {
		return api.ErrConflict
	}
	return api.OK
}

// Buffer returns the requirement that a buffer is neither overfilled nor emptied below nothing.
func Buffer(put, take []int, capacity int) (api.Automaton, api.Errno) {
	if e := checkApart(put, take); e != api.OK {
		return api.Automaton{}, e
	}
	if capacity < 1 || capacity > MaxCapacity {
		return api.Automaton{}, api.ErrRange
	}
	a := pattern(alphabet.Union(put, take), func(parts, event int) (int, bool) {
		if alphabet.Contains(put, event) {
			return parts + 1, parts < capacity
		}
		return parts - 1, parts > 0
	})
	return markFirst(a), api.OK
}

// AtMost returns the requirement that only so many phases are entered at the same time.
func AtMost(phases []Phase, most int) (api.Automaton, api.Errno) {
	if len(phases) > MaxPhases {
		return api.Automaton{}, api.ErrLimit
	}
	var events []int
	enters, leaves := map[int]int{}, map[int]int{} // from events to the bits of their phases; 0 if there is none
	for i, x := range phases {
		events = append(events, x.Enter, x.Leave)
		enters[x.Enter], leaves[x.Leave] = 1<<i, 1<<i
	}
	if e := checkDifferent(events); e != api.OK {
		return api.Automaton{}, e
	}
	if most < 0 || most > len(phases) {
		return api.Automaton{}, api.ErrRange
	}
	slices.Sort(events)
	a := pattern(events, func(entered, event int) (int, bool) {
		if bit := enters[event]; bit != 0 {
			return entered | bit, entered&bit == 0 && bits.OnesCount(uint(entered)) < most
		}
		bit := leaves[event]
		return entered &^ bit, entered&bit != 0
	})
	return markAll(a), api.OK
}

// Precede returns the requirement that none of second occurs before one of first has occurred.
func Precede(first, second []int) (api.Automaton, api.Errno) {
	if e := checkApart(first, second); e != api.OK {
		return api.Automaton{}, e
	}
	a := pattern(alphabet.Union(first, second), func(state, event int) (int, bool) {
		return 1, state == 1 || alphabet.Contains(first, event)
	})
	return markAll(a), api.OK
}

// Between returns the requirement that an event occurs only so often after open and before the next shut.
func Between(event, open, shut, most int) (api.Automaton, api.Errno) {
	events := []int{event, open, shut}
	if slices.ContainsFunc(events, func(x int) bool { return !isEvent(x) }) { // comes before ErrDuplicate, also of the last one
		return api.Automaton{}, api.ErrRange
	}
	if e := checkDifferent(events); e != api.OK {
		return api.Automaton{}, e
	}
	if most < 0 || most > MaxCapacity {
		return api.Automaton{}, api.ErrRange
	}
	slices.Sort(events)
	a := pattern(events, func(state, x int) (int, bool) {
		switch {
		case x == open:
			return 1, true
		case x == shut || state == 0:
			return 0, true
		}
		return state + 1, state <= most // the state is one more than the number of occurrences
	})
	return markAll(a), api.OK
}

// Never returns the requirement that refuses events.
func Never(events []int) (api.Automaton, api.Errno) {
	if e := alphabet.CheckSet(events, api.MaxEvents); e != api.OK {
		return api.Automaton{}, e
	}
	a := pattern(events, func(int, int) (int, bool) { return 0, false })
	return markAll(a), api.OK
}

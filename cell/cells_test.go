package cell_test

import (
	"fmt"
	"math/rand"
	"slices"

	"overseer/api"
	"overseer/automaton"
	"overseer/cell"
)

type (
	ints = []int
	part = cell.Part
)

// machine returns an automaton; edges are from a state, by an event, to a state.
func machine(alphabet ints, states int, marked ints, edges ...[3]int) api.Automaton {
	a := api.Automaton{Alphabet: alphabet, States: states, Marked: marked}
	for _, x := range edges {
		a.Edges = append(a.Edges, api.Edge{From: x[0], Event: x[1], To: x[2]})
	}
	return a
}

// cycle is the machine that is idle until its start, and then works until its finish.
func cycle(start, finish int) api.Automaton {
	return machine(ints{start, finish}, 2, ints{0}, [3]int{0, start, 1}, [3]int{1, finish, 0})
}

// ring returns an automaton in which an event leads from each state to the next one, and from the last one to the first one.
func ring(n, event int) api.Automaton {
	a := machine(ints{event}, n, ints{0})
	for s := range n {
		a.Edges = append(a.Edges, api.Edge{From: s, Event: event, To: (s + 1) % n})
	}
	return a
}

// never has one state, and refuses all its events.
func never(events ...int) api.Automaton {
	return machine(events, 1, ints{0})
}

// items gives automata the names a, b, .. with a prefix.
func items(prefix string, l ...api.Automaton) []api.Item {
	var all []api.Item
	for i, a := range l {
		all = append(all, api.Item{Name: fmt.Sprint(prefix, i), Automaton: a})
	}
	return all
}

// events are some events of which some are controllable.
func events(n int, controllable ...int) []api.Event {
	var l []api.Event
	for i := range n {
		l = append(l, api.Event{Name: fmt.Sprint("e", i), Controllable: slices.Contains(controllable, i), Observable: true})
	}
	return l
}

// excluded and bounded are conditions; the numbers are pairs of a component and a state or a factor.
func excluded(name string, l ...int) api.Exclusion {
	x := api.Exclusion{Name: name}
	for i := 0; i < len(l); i += 2 {
		x.Locals = append(x.Locals, api.Local{Component: l[i], State: l[i+1]})
	}
	return x
}

func bounded(name string, bound int, l ...int) api.Constraint {
	x := api.Constraint{Name: name, Bound: bound}
	for i := 0; i < len(l); i += 2 {
		x.Terms = append(x.Terms, api.Term{Component: l[i], Factor: l[i+1]})
	}
	return x
}

// one is the cell of the chapter's first example, two that of the second one.
func one() api.Cell {
	return api.Cell{Events: events(2, 0), Components: items("m", cycle(0, 1)), Requirements: items("r", never(1))}
}

func two() api.Cell {
	return api.Cell{
		Events:     events(4, 0, 2),
		Components: items("m", cycle(0, 1), cycle(2, 3)),
		Exclusions: []api.Exclusion{excluded("x", 0, 1, 1, 1)},
	}
}

// whole has everything that a cell can have. No component has the event 5.
func whole() api.Cell {
	return api.Cell{
		Events:     events(6, 0, 2, 5),
		Components: items("m", cycle(0, 1), cycle(2, 3), ring(3, 4)),
		Requirements: items("r",
			machine(ints{1, 2}, 2, ints{0}, [3]int{0, 1, 1}, [3]int{1, 2, 0}),
			machine(ints{0, 3}, 2, ints{0, 1}, [3]int{0, 0, 0}, [3]int{0, 3, 1}, [3]int{1, 3, 1}),
		),
		Exclusions:  []api.Exclusion{excluded("x", 0, 1, 1, 1), excluded("y", 2, 2)},
		Constraints: []api.Constraint{bounded("x", 2, 0, 1, 2, 1), bounded("y", 3, 0, -1, 1, 2, 2, 2)},
	}
}

// everything is the part of a cell with everything.
func everything(c api.Cell) part {
	return part{Components: numbers(len(c.Components)), Requirements: numbers(len(c.Requirements)), Exclusions: numbers(len(c.Exclusions)), Constraints: numbers(len(c.Constraints))}
}

// numbers returns 0 to n - 1.
func numbers(n int) ints {
	l := make(ints, n)
	for i := range l {
		l[i] = i
	}
	return l
}

// some draws numbers below n, each with the chance of one in few.
func some(r *rand.Rand, n, few int) ints {
	var set ints
	for x := range n {
		if r.Intn(few) == 0 {
			set = append(set, x)
		}
	}
	return set
}

// drawAutomaton draws a canonical automaton with some events; it has edges by most of them.
func drawAutomaton(r *rand.Rand, events ints, dense int) api.Automaton {
	a := api.Automaton{Alphabet: events, States: 1 + r.Intn(4)}
	a.Marked = some(r, a.States, 2)
	for s := range a.States {
		for _, x := range a.Alphabet {
			if r.Intn(8) < dense {
				a.Edges = append(a.Edges, api.Edge{From: s, Event: x, To: r.Intn(a.States)})
			}
		}
	}
	a, _ = automaton.Canonical(a)
	return a
}

// draw draws a valid cell.
func draw(r *rand.Rand) api.Cell {
	n := 1 + r.Intn(5)
	c := api.Cell{Events: events(n, some(r, n, 2)...)}
	var components, requirements []api.Automaton
	known := ints{}
	for range 1 + r.Intn(3) {
		a := drawAutomaton(r, some(r, n, 2), 5)
		components, known = append(components, a), append(known, a.Alphabet...)
	}
	slices.Sort(known)
	known = slices.Compact(known)
	for range r.Intn(3) {
		var l ints
		for _, i := range some(r, len(known), 2) {
			l = append(l, known[i])
		}
		requirements = append(requirements, drawAutomaton(r, l, 6))
	}
	c.Components, c.Requirements = items("m", components...), items("r", requirements...)
	drawConditions(r, &c)
	return c
}

func drawConditions(r *rand.Rand, c *api.Cell) {
	for i := range r.Intn(3) {
		x, y := api.Exclusion{Name: fmt.Sprint("x", i)}, api.Constraint{Name: fmt.Sprint("y", i), Bound: r.Intn(6)}
		for k := range c.Components {
			if r.Intn(3) > 0 {
				x.Locals = append(x.Locals, api.Local{Component: k, State: r.Intn(c.Components[k].Automaton.States)})
				y.Terms = append(y.Terms, api.Term{Component: k, Factor: []int{-1, 1, 2, 3}[r.Intn(4)]})
			}
		}
		if len(x.Locals) > 0 {
			c.Exclusions = append(c.Exclusions, x)
			c.Constraints = append(c.Constraints, y)
		}
	}
}

// automata returns the automata of some items.
func automata(l []api.Item) []api.Automaton {
	var all []api.Automaton
	for _, x := range l {
		all = append(all, x.Automaton)
	}
	return all
}

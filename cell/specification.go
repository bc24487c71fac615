package cell

import (
	"cmp"
	"slices"

	"overseer/alphabet"
	"overseer/api"
	"overseer/exclusion"
	"overseer/product"
)

// Reason says why a state of a specification is forbidden: by an exclusion, a constraint, or a requirement (Index) that refuses an uncontrollable event. Event is -1 for the first two kinds.
type Reason struct{ State, Kind, Index, Event int }

// Specification is the product of components and requirements: for each of its states the states of the components and of the requirements, the state of the plant, and the forbidden states with their reasons.
type Specification struct {
	Automaton    api.Automaton
	Components   [][]int
	Requirements [][]int
	Plant        []int
	Forbidden    []Reason
}

// Plant returns the product of the components, with their states.
func Plant(c api.Cell) (a api.Automaton, tuples [][]int, e api.Errno) {
	if e := Check(c); e != api.OK {
		return api.Automaton{}, nil, e
	}
	return product.Synchronous(automata(c.Components))
}

// Specify returns the specification of a cell.
func Specify(c api.Cell) (Specification, api.Errno) {
	b, e := build(c)
	if e != api.OK {
		return Specification{}, e
	}
	searches := []search{b.violation(), b.refusal()}
	for state := range b.spec.Automaton.States {
		if reason, found := first(searches, state); found {
			b.spec.Forbidden = append(b.spec.Forbidden, reason)
		}
	}
	return b.spec, api.OK
}

// Complete returns the specification with a further state to which all refused edges of the plant lead, and all forbidden states.
func Complete(c api.Cell) (a api.Automaton, forbidden []int, e api.Errno) {
	b, e := build(c)
	if e != api.OK {
		return api.Automaton{}, nil, e
	}
	a = b.spec.Automaton
	further := a.States
	if further == api.MaxStates {
		return api.Automaton{}, nil, api.ErrLimit
	}
	a.States++
	for state := range further {
		for _, event := range union(b.refused(state)) {
			a.Edges = append(a.Edges, api.Edge{From: state, Event: event, To: further})
		}
	}
	slices.SortFunc(a.Edges, func(x, y api.Edge) int {
		return cmp.Or(cmp.Compare(x.From, y.From), cmp.Compare(x.Event, y.Event))
	})
	return a, append(b.violating(), further), api.OK
}

// building is a specification without its forbidden states, and what is asked to find them.
type building struct {
	cell     api.Cell
	spec     Specification
	enabled  []uint32   // of each state of the plant the events of its edges, as bits
	refusals [][]uint32 // of each requirement, for each of its states, the events that it refuses, as bits
}

func build(c api.Cell) (*building, api.Errno) {
	plant, tuples, e := Plant(c)
	if e != api.OK {
		return nil, e
	}
	p, both, e := product.Synchronous(automata(slices.Concat(c.Components, c.Requirements)))
	if e != api.OK {
		return nil, e
	}
	b := &building{cell: c, spec: Specification{Automaton: p}, enabled: enabled(plant)}
	number, n := numbers(tuples), len(c.Components)
	for _, tuple := range both {
		b.spec.Components = append(b.spec.Components, slices.Clone(tuple[:n]))
		b.spec.Requirements = append(b.spec.Requirements, slices.Clone(tuple[n:]))
		b.spec.Plant = append(b.spec.Plant, number(tuple[:n]))
	}
	for _, x := range c.Requirements {
		b.refusals = append(b.refusals, refusals(x.Automaton))
	}
	return b, api.OK
}

// numbers returns the function that finds the state of the plant with a tuple.
func numbers(tuples [][]int) func(tuple []int) int {
	keyOf := func(tuple []int) (key [api.MaxComponents]int) {
		copy(key[:], tuple)
		return key
	}
	states := map[[api.MaxComponents]int]int{}
	for state, tuple := range tuples {
		states[keyOf(tuple)] = state
	}
	return func(tuple []int) int { return states[keyOf(tuple)] }
}

func automata(l []api.Item) []api.Automaton {
	var automata []api.Automaton
	for _, x := range l {
		automata = append(automata, x.Automaton)
	}
	return automata
}

// enabled returns for each state of an automaton the events of its edges, as bits.
func enabled(a api.Automaton) []uint32 {
	events := make([]uint32, a.States)
	for _, x := range a.Edges {
		events[x.From] |= 1 << x.Event
	}
	return events
}

// refusals returns for each state of an automaton the events of its alphabet without an edge, as bits.
func refusals(a api.Automaton) []uint32 {
	all, _ := alphabet.Mask(a.Alphabet)
	events := enabled(a)
	for state := range events {
		events[state] = all &^ events[state]
	}
	return events
}

// refused returns for each requirement the events that it refuses, and the plant has, in a state of the specification, as bits.
func (b *building) refused(state int) []uint32 {
	events := make([]uint32, len(b.refusals))
	for i, s := range b.spec.Requirements[state] {
		events[i] = b.refusals[i][s] & b.enabled[b.spec.Plant[state]]
	}
	return events
}

// union returns the events that are in one of some sets of bits.
func union(l []uint32) []int {
	var all uint32
	for _, events := range l {
		all |= events
	}
	return alphabet.Set(all)
}

// violating returns the states that violate an exclusion or a constraint.
func (b *building) violating() []int {
	states, _ := exclusion.Forbidden(conditionsOf(b.cell), b.spec.Components)
	return states
}

// search looks for a reason why a state is forbidden.
type search func(state int) (reason Reason, found bool)

// first returns what the first search finds that finds a reason.
func first(l []search, state int) (reason Reason, found bool) {
	for _, search := range l {
		if reason, found := search(state); found {
			return reason, true
		}
	}
	return Reason{}, false
}

// violation looks for an exclusion or, if there is none, a constraint that is violated.
func (b *building) violation() search {
	kinds := map[int]int{exclusion.Excluded: Excluded, exclusion.Exceeded: Exceeded}
	conditions, violating := conditionsOf(b.cell), b.violating()
	return func(state int) (Reason, bool) {
		if !alphabet.Contains(violating, state) {
			return Reason{}, false
		}
		kind, index, _, _ := exclusion.Violated(conditions, b.spec.Components[state])
		return Reason{State: state, Kind: kinds[kind], Index: index, Event: -1}, true
	}
}

// refusal looks for an uncontrollable event that a requirement refuses.
func (b *building) refusal() search {
	uncontrollable, _ := alphabet.Select(b.cell.Events, alphabet.Uncontrollable)
	return func(state int) (Reason, bool) {
		refused := b.refused(state)
		events := alphabet.Intersect(union(refused), uncontrollable)
		if len(events) == 0 {
			return Reason{}, false
		}
		index := slices.IndexFunc(refused, func(l uint32) bool { return l>>events[0]&1 == 1 })
		return Reason{State: state, Kind: Refused, Index: index, Event: events[0]}, true
	}
}

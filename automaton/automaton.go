// Package automaton contains deterministic automata: the first operations on api.Automaton (layer 3, see shared/doc/03-automaton.md).
package automaton

import (
	"cmp"
	"slices"

	"overseer/api"
)

// MaxWords is the greatest number of words that are returned.
const MaxWords = 1024

// Check returns the error of an automaton.
func Check(a api.Automaton) api.Errno {
	if e := checkSet(a.Alphabet, api.MaxEvents); e != api.OK {
		return e
	}
	if a.States < 0 {
		return api.ErrRange
	}
	if a.States > api.MaxStates {
		return api.ErrLimit
	}
	if e := checkSet(a.Marked, a.States); e != api.OK {
		return e
	}
	return checkEdges(a)
}

// checkSet returns the error of a strictly increasing list of numbers below n.
func checkSet(set []int, n int) api.Errno {
	for i, x := range set {
		if x < 0 || x >= n {
			return api.ErrRange
		}
		if i > 0 && x <= set[i-1] {
			return api.ErrOrder
		}
	}
	return api.OK
}

func checkEdges(a api.Automaton) api.Errno {
	for i, x := range a.Edges {
		switch {
		case !isState(a, x.From) || !isState(a, x.To):
			return api.ErrRange
		case !hasEvent(a, x.Event):
			return api.ErrUnknown
		case i > 0 && compareEdges(x, a.Edges[i-1]) <= 0:
			return api.ErrOrder
		}
	}
	return api.OK
}

func isState(a api.Automaton, state int) bool {
	return 0 <= state && state < a.States
}

func hasEvent(a api.Automaton, event int) bool {
	return contains(a.Alphabet, event)
}

func contains(set []int, x int) bool {
	_, found := slices.BinarySearch(set, x)
	return found
}

// compareEdges compares edges by From, then Event.
func compareEdges(x, y api.Edge) int {
	if n := cmp.Compare(x.From, y.From); n != 0 {
		return n
	}
	return cmp.Compare(x.Event, y.Event)
}

// Canonical returns the canonical form of an automaton.
func Canonical(a api.Automaton) (api.Automaton, api.Errno) {
	if e := Check(a); e != api.OK {
		return api.Automaton{}, e
	}
	return canonical(a), api.OK
}

// canonical returns the canonical form of an automaton that may have more states than the limit.
func canonical(a api.Automaton) api.Automaton {
	c := api.Automaton{Alphabet: slices.Clone(a.Alphabet)}
	if a.States == 0 {
		return c
	}
	number := make([]int, a.States)
	for i := range number {
		number[i] = -1
	}
	number[0] = 0
	found := []int{0}
	starts := edgeStarts(a)
	for n := 0; n < len(found); n++ {
		for _, x := range a.Edges[starts[found[n]]:starts[found[n]+1]] {
			if number[x.To] < 0 {
				number[x.To] = len(found)
				found = append(found, x.To)
			}
			c.Edges = append(c.Edges, api.Edge{From: n, Event: x.Event, To: number[x.To]})
		}
	}
	c.States = len(found)
	for _, m := range a.Marked {
		if number[m] >= 0 {
			c.Marked = append(c.Marked, number[m])
		}
	}
	slices.Sort(c.Marked)
	return c
}

// edgeStarts returns for each state, and for the end of the list, the index of its first edge.
func edgeStarts(a api.Automaton) []int {
	starts := make([]int, a.States+1)
	for _, x := range a.Edges {
		starts[x.From+1]++
	}
	for i := range a.States {
		starts[i+1] += starts[i]
	}
	return starts
}

// IsCanonical reports whether an automaton is its own canonical form.
func IsCanonical(a api.Automaton) bool {
	return Check(a) == api.OK && Equal(a, canonical(a))
}

// Equal reports whether all fields are equal.
func Equal(a, b api.Automaton) bool {
	return slices.Equal(a.Alphabet, b.Alphabet) && a.States == b.States && slices.Equal(a.Marked, b.Marked) && slices.Equal(a.Edges, b.Edges)
}

// Step returns the state to which an event leads.
func Step(a api.Automaton, state, event int) (next int, possible bool, e api.Errno) {
	if e := checkPlace(a, state); e != api.OK {
		return 0, false, e
	}
	if !hasEvent(a, event) {
		return 0, false, api.ErrUnknown
	}
	next, possible = step(a, state, event)
	return next, possible, api.OK
}

// checkPlace returns the error of an automaton and of one of its states.
func checkPlace(a api.Automaton, state int) api.Errno {
	if e := Check(a); e != api.OK {
		return e
	}
	if !isState(a, state) {
		return api.ErrRange
	}
	return api.OK
}

func step(a api.Automaton, state, event int) (next int, possible bool) {
	i, found := slices.BinarySearchFunc(a.Edges, api.Edge{From: state, Event: event}, compareEdges)
	if !found {
		return 0, false
	}
	return a.Edges[i].To, true
}

// Run returns the state to which a word leads, and how many of its events are possible.
func Run(a api.Automaton, from int, word []int) (state, done int, e api.Errno) {
	if e := checkPlace(a, from); e != api.OK {
		return 0, 0, e
	}
	for _, x := range word {
		if !hasEvent(a, x) {
			return 0, 0, api.ErrUnknown
		}
	}
	state, done = run(a, from, word)
	return state, done, api.OK
}

func run(a api.Automaton, from int, word []int) (state, done int) {
	state = from
	for _, x := range word {
		next, possible := step(a, state, x)
		if !possible {
			break
		}
		state, done = next, done+1
	}
	return state, done
}

// Enabled returns the events of the edges of a state.
func Enabled(a api.Automaton, state int) ([]int, api.Errno) {
	if e := checkPlace(a, state); e != api.OK {
		return nil, e
	}
	var events []int
	for _, x := range a.Edges {
		if x.From == state {
			events = append(events, x.Event)
		}
	}
	return events, api.OK
}

// Generates reports whether a word belongs to the generated language.
func Generates(a api.Automaton, word []int) (bool, api.Errno) {
	if e := Check(a); e != api.OK {
		return false, e
	}
	_, generated := end(a, word)
	return generated, api.OK
}

// Accepts reports whether a word belongs to the marked language.
func Accepts(a api.Automaton, word []int) (bool, api.Errno) {
	if e := Check(a); e != api.OK {
		return false, e
	}
	state, generated := end(a, word)
	return generated && contains(a.Marked, state), api.OK
}

// end returns the state to which the whole word leads from the initial state, if there are both.
func end(a api.Automaton, word []int) (state int, generated bool) {
	if a.States == 0 {
		return 0, false
	}
	state, done := run(a, 0, word)
	return state, done == len(word)
}

// Words returns all words up to a length.
func Words(a api.Automaton, most int, marked bool) ([][]int, api.Errno) {
	if e := Check(a); e != api.OK {
		return nil, e
	}
	if most < 0 || most > api.MaxWord {
		return nil, api.ErrRange
	}
	words, ends, e := generated(a, most)
	if e != api.OK {
		return nil, e
	}
	var l [][]int
	for i, w := range words {
		if !marked || contains(a.Marked, ends[i]) {
			l = append(l, w)
		}
	}
	return l, api.OK
}

// generated returns the words of the generated language up to a length, with the states to which they lead. Going on from the words in their order yields the longer ones in order.
func generated(a api.Automaton, most int) (words [][]int, ends []int, e api.Errno) {
	if a.States == 0 {
		return nil, nil, api.OK
	}
	starts := edgeStarts(a)
	words, ends = [][]int{{}}, []int{0}
	for i := 0; i < len(words) && len(words[i]) < most; i++ {
		for _, x := range a.Edges[starts[ends[i]]:starts[ends[i]+1]] {
			if len(words) == MaxWords {
				return nil, nil, api.ErrLimit
			}
			words = append(words, slices.Concat(words[i], []int{x.Event}))
			ends = append(ends, x.To)
		}
	}
	return words, ends, api.OK
}

// Relabel replaces the events.
func Relabel(a api.Automaton, to []int) (api.Automaton, api.Errno) {
	if e := Check(a); e != api.OK {
		return api.Automaton{}, e
	}
	if len(to) != len(a.Alphabet) {
		return api.Automaton{}, api.ErrSize
	}
	if e := checkNewEvents(to); e != api.OK {
		return api.Automaton{}, e
	}
	b := api.Automaton{Alphabet: slices.Sorted(slices.Values(to)), States: a.States, Marked: a.Marked}
	for _, x := range a.Edges {
		i, _ := slices.BinarySearch(a.Alphabet, x.Event)
		b.Edges = append(b.Edges, api.Edge{From: x.From, Event: to[i], To: x.To})
	}
	slices.SortFunc(b.Edges, compareEdges)
	return canonical(b), api.OK
}

func checkNewEvents(to []int) api.Errno {
	for i, x := range to {
		if x < 0 || x >= api.MaxEvents {
			return api.ErrRange
		}
		if slices.Contains(to[:i], x) {
			return api.ErrDuplicate
		}
	}
	return api.OK
}

// Complete adds a state to which all events lead that are not possible.
func Complete(a api.Automaton) (api.Automaton, api.Errno) {
	if e := Check(a); e != api.OK {
		return api.Automaton{}, e
	}
	further := a.States
	b := api.Automaton{Alphabet: a.Alphabet, States: a.States + 1, Marked: a.Marked}
	for s := range b.States {
		for _, x := range a.Alphabet {
			to, possible := step(a, s, x)
			if !possible {
				to = further
			}
			b.Edges = append(b.Edges, api.Edge{From: s, Event: x, To: to})
		}
	}
	c := canonical(b)
	if c.States > api.MaxStates {
		return api.Automaton{}, api.ErrLimit
	}
	return c, api.OK
}

// Closed marks all states.
func Closed(a api.Automaton) (api.Automaton, api.Errno) {
	if e := Check(a); e != api.OK {
		return api.Automaton{}, e
	}
	c := canonical(a)
	c.Marked = nil
	for s := range c.States {
		c.Marked = append(c.Marked, s)
	}
	return c, api.OK
}

package language

import (
	"cmp"
	"math/bits"

	"overseer/api"
	"overseer/automaton"
)

// Concat returns the minimal automaton of the marked words of a, each followed by a marked word of b.
func Concat(a, b api.Automaton) (api.Automaton, api.Errno) {
	if e := cmp.Or(automaton.Check(a), automaton.Check(b)); e != api.OK {
		return api.Automaton{}, e
	}
	c := chain{completed(a, Marked), completed(b, Marked), eventsOf(a, b)}
	all, e := c.automaton()
	if e != api.OK {
		return api.Automaton{}, e
	}
	return least(all)
}

// chain is two completed automata, of which the second one begins wherever a marked word of the first one ends, and the events of both.
type chain struct {
	a, b   table
	events []int
}

// situation is what a word reaches: a state of the first automaton, and states of the second one. Further states, from which no word is marked, are left out.
type situation struct {
	first int
	then  [api.MaxStates / 64]uint64
}

// nowhere is what a word reaches that is no beginning of a word of the language.
func (c chain) nowhere() situation { return situation{first: len(c.a.next) - 1} }

// entered adds the initial state of the second automaton where a word of the first one can end.
func (c chain) entered(s situation) situation {
	if c.a.belongs[s.first] && len(c.b.next) > 1 {
		s.then[0] |= 1
	}
	return s
}

func (c chain) step(s situation, event int) situation {
	next := situation{first: int(c.a.next[s.first][event])}
	further := len(c.b.next) - 1
	for y := range s.states {
		if z := int(c.b.next[y][event]); z != further {
			next.then[z/64] |= 1 << (z % 64)
		}
	}
	return c.entered(next)
}

// states yields the states of the second automaton.
func (s situation) states(yield func(int) bool) {
	for i, part := range s.then {
		for ; part != 0; part &= part - 1 {
			if !yield(64*i + bits.TrailingZeros64(part)) {
				return
			}
		}
	}
}

func (c chain) isMarked(s situation) bool {
	for y := range s.states {
		if c.b.belongs[y] {
			return true
		}
	}
	return false
}

// automaton returns the automaton whose states are all situations.
func (c chain) automaton() (api.Automaton, api.Errno) {
	a := api.Automaton{Alphabet: c.events}
	numbers := map[situation]int{}
	var found []situation
	numberOf := func(s situation) int {
		n, known := numbers[s]
		if !known {
			n = len(found)
			numbers[s] = n
			found = append(found, s)
		}
		return n
	}
	nowhere := c.nowhere()
	numberOf(c.entered(situation{}))
	for n := 0; n < len(found); n++ {
		if n >= api.MaxStates {
			return api.Automaton{}, api.ErrLimit
		}
		if c.isMarked(found[n]) {
			a.Marked = append(a.Marked, n)
		}
		for _, x := range c.events {
			if next := c.step(found[n], x); next != nowhere {
				a.Edges = append(a.Edges, api.Edge{From: n, Event: x, To: numberOf(next)})
			}
		}
	}
	a.States = len(found)
	return a, api.OK
}

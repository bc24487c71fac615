package language

import (
	"iter"
	"slices"

	"overseer/alphabet"
	"overseer/api"
)

// eventsOf returns the events of two automata.
func eventsOf(a, b api.Automaton) []int { return alphabet.Union(a.Alphabet, b.Alphabet) }

// table is an automaton that is completed by one state, the last one, for all events: so every word leads from the state 0 to a state. It knows of each state whether the words that lead to it belong to the language.
type table struct {
	next    [][api.MaxEvents]int16
	belongs []bool
}

func completed(a api.Automaton, kind int) table {
	t := table{next: make([][api.MaxEvents]int16, a.States+1), belongs: make([]bool, a.States+1)}
	for s := range t.next {
		for x := range t.next[s] {
			t.next[s][x] = int16(a.States)
		}
	}
	for _, x := range a.Edges {
		t.next[x.From][x.Event] = int16(x.To)
	}
	for s := range a.States {
		t.belongs[s] = kind == Generated
	}
	for _, s := range a.Marked {
		t.belongs[s] = true
	}
	return t
}

// product is a pair of completed automata, and the events of both.
type product struct {
	a, b   table
	events []int
}

// visit is a pair of states that was found, by an event after the pair with the index from. Its fields are small, because there can be many.
type visit struct {
	from  int32
	x, y  int16
	event uint8
}

// belongs reports to which of both languages the words belong that lead to a pair.
func (p product) belongs(v visit) (inA, inB bool) { return p.a.belongs[v.x], p.b.belongs[v.y] }

// search goes through all pairs in the order of the least words that lead to them, up to the first one at which it is to stop.
func (p product) search(stop func(visit) bool) (visits []visit, stopped bool) {
	width := len(p.b.next)
	found := make([]bool, len(p.a.next)*width)
	found[0] = true
	visits = append(visits, visit{from: -1})
	for i := 0; i < len(visits); i++ {
		v := visits[i]
		if stop(v) {
			return visits[:i+1], true
		}
		for _, x := range p.events {
			next := p.step(v, x)
			if n := int(next.x)*width + int(next.y); !found[n] {
				found[n] = true
				next.from = int32(i)
				visits = append(visits, next)
			}
		}
	}
	return visits, false
}

func (p product) step(v visit, event int) visit {
	return visit{x: p.a.next[v.x][event], y: p.b.next[v.y][event], event: uint8(event)}
}

// wordTo returns the word by which a pair was found.
func wordTo(visits []visit, i int) []int {
	word := slices.Collect(eventsBack(visits, i))
	slices.Reverse(word)
	return word
}

// eventsBack yields the events by which pairs were found, from one pair back to the first one.
func eventsBack(visits []visit, i int) iter.Seq[int] {
	return func(yield func(int) bool) {
		for v := visits[i]; v.from >= 0; v = visits[v.from] {
			if !yield(int(v.event)) {
				return
			}
		}
	}
}

// automaton returns the automaton whose states are all pairs, marked if they are chosen by to which of both languages they belong.
func (p product) automaton(visits []visit, choose func(inA, inB bool) bool) api.Automaton {
	numbers := map[[2]int16]int{}
	for n, v := range visits {
		numbers[[2]int16{v.x, v.y}] = n
	}
	a := api.Automaton{Alphabet: p.events, States: len(visits)}
	for n, v := range visits {
		if choose(p.belongs(v)) {
			a.Marked = append(a.Marked, n)
		}
		for _, x := range p.events {
			next := p.step(v, x)
			a.Edges = append(a.Edges, api.Edge{From: n, Event: x, To: numbers[[2]int16{next.x, next.y}]})
		}
	}
	return a
}

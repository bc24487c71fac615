package projection

import (
	"slices"

	"overseer/api"
)

// observer is an automaton of which some events are seen.
type observer struct {
	graph
	kept   []int
	erased flags
}

func observerOf(a api.Automaton, onto []int) observer {
	o := observer{graph: graphOf(a)}
	for _, x := range a.Alphabet {
		if contains(onto, x) {
			o.kept = append(o.kept, x)
		} else {
			o.erased[x] = true
		}
	}
	return o
}

// keeps reports whether all events of a word are seen.
func (o observer) keeps(word []int) bool {
	return !slices.ContainsFunc(word, func(x int) bool { return !contains(o.kept, x) })
}

// first returns the estimate after the empty observation.
func (o observer) first() []int {
	if len(o.graph) == 0 {
		return nil
	}
	return o.spread([]int{0}, o.erased)
}

// next returns the estimate after one more event.
func (o observer) next(estimate []int, event int) []int {
	return o.spread(o.targets(estimate)[event], o.erased)
}

// explore returns the estimates after all observations, but for the empty one, in the order in which they are found breadth first, and the edges between them.
func (o observer) explore() ([][]int, []api.Edge, api.Errno) {
	var estimates [][]int
	numbers := map[string]int{}
	number := func(estimate []int) int {
		text := textOf(estimate)
		n, known := numbers[text]
		if !known {
			n = len(estimates)
			numbers[text] = n
			estimates = append(estimates, estimate)
		}
		return n
	}
	if first := o.first(); len(first) > 0 {
		number(first)
	}
	var edges []api.Edge
	for n := 0; n < len(estimates); n++ {
		targets := o.targets(estimates[n])
		for _, x := range o.kept {
			if len(targets[x]) > 0 {
				edges = append(edges, api.Edge{From: n, Event: x, To: number(o.spread(targets[x], o.erased))})
			}
		}
		if len(estimates) > api.MaxStates {
			return nil, nil, api.ErrLimit
		}
	}
	return estimates, edges, api.OK
}

// textOf returns a text that no other set of states has.
func textOf(set []int) string {
	text := make([]byte, 0, 2*len(set))
	for _, s := range set {
		text = append(text, byte(s>>8), byte(s))
	}
	return string(text)
}

// place is where a search is: the number of events of the observation that have led to a state.
type place struct{ done, state int }

// origin is the event by which a search has found a place, and the state from which it leads there. There may be very many of them.
type origin struct {
	found bool
	event int8
	from  int16
}

// lift returns the least word with an observation that leads to one of some states. The search finds each place by its least word first.
func (o observer) lift(observation []int, isGoal func(state int) bool) (word []int, found bool) {
	var queue []place
	origins := make([][]origin, len(observation)+1)
	find := func(p place, event, from int) {
		if origins[p.done] == nil {
			origins[p.done] = make([]origin, len(o.graph))
		}
		if x := &origins[p.done][p.state]; !x.found {
			*x = origin{found: true, event: int8(event), from: int16(from)}
			queue = append(queue, p)
		}
	}
	if len(o.graph) > 0 {
		find(place{}, 0, 0)
	}
	for len(queue) > 0 {
		p := queue[0]
		queue = queue[1:]
		if p.done == len(observation) && isGoal(p.state) {
			return o.wordTo(p, origins), true
		}
		for _, x := range o.graph[p.state] {
			switch {
			case o.erased[x.Event]:
				find(place{p.done, x.To}, x.Event, p.state)
			case p.done < len(observation) && x.Event == observation[p.done]:
				find(place{p.done + 1, x.To}, x.Event, p.state)
			}
		}
	}
	return nil, false
}

// wordTo returns the word that led to a place from that where the search began.
func (o observer) wordTo(p place, origins [][]origin) []int {
	var word []int
	for p != (place{}) {
		x := origins[p.done][p.state]
		word = append(word, int(x.event))
		if !o.erased[x.event] {
			p.done--
		}
		p.state = int(x.from)
	}
	slices.Reverse(word)
	return word
}

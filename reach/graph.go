package reach

import (
	"cmp"
	"iter"
	"slices"

	"overseer/api"
)

// flags tells of each state whether something is true of it.
type flags [api.MaxStates]bool

func flagsOf(set []int) flags {
	var f flags
	for _, s := range set {
		f[s] = true
	}
	return f
}

// graph is the list of the edges that leave each state, in order.
type graph [][]api.Edge

// graphOf returns the graph of the edges for which a function is true.
func graphOf(a api.Automaton, is func(x api.Edge) bool) graph {
	g := make(graph, a.States)
	for _, x := range a.Edges {
		if is(x) {
			g[x.From] = append(g[x.From], x)
		}
	}
	return g
}

func anyEdge(api.Edge) bool {
	return true
}

// byOneOf returns the function that is true of the edges by some events.
func byOneOf(events []int) func(x api.Edge) bool {
	return func(x api.Edge) bool { return slices.Contains(events, x.Event) }
}

// turned returns the graph in which all edges lead backward.
func (g graph) turned() graph {
	t := make(graph, len(g))
	for s := range g {
		for x := range g.edges(s) {
			t[x.To] = append(t[x.To], api.Edge{From: x.To, Event: x.Event, To: x.From})
		}
	}
	return t
}

// edges yields the edges that leave a state, in order.
func (g graph) edges(state int) iter.Seq[api.Edge] {
	return func(yield func(api.Edge) bool) {
		for _, x := range g[state] {
			if !yield(x) {
				return
			}
		}
	}
}

// visit is a state that a search has found: the distance, and the event that led to it from the state of an earlier visit. For a state where the search began, before is -1.
type visit struct{ state, distance, event, before int }

// spread searches breadth first, from some states on, and returns the states that it finds, in the order of their least words. It passes over the states that are flagged as seen, and flags those that it finds.
func (g graph) spread(from []int, seen *flags) []visit {
	var queue []visit
	find := func(v visit) {
		if !seen[v.state] {
			seen[v.state] = true
			queue = append(queue, v)
		}
	}
	for _, s := range from {
		find(visit{state: s, before: -1})
	}
	for i := 0; i < len(queue); i++ {
		for x := range g.edges(queue[i].state) {
			find(visit{state: x.To, distance: queue[i].distance + 1, event: x.Event, before: i})
		}
	}
	return queue
}

// wordTo returns the word that led to a visit.
func wordTo(queue []visit, i int) []int {
	var word []int
	for ; queue[i].before >= 0; i = queue[i].before {
		word = append(word, queue[i].event)
	}
	slices.Reverse(word)
	return word
}

// wordBack returns the least word with at least one event that leads from a state to itself. The first edge back in the order of the search ends it, because the states are found in the order of their least words.
func (g graph) wordBack(state int) []int {
	queue := g.spread([]int{state}, new(flags))
	for i, v := range queue {
		for x := range g.edges(v.state) {
			if x.To == state {
				return append(wordTo(queue, i), x.Event)
			}
		}
	}
	return nil
}

// circling flags the states from which a word with at least one event leads to the state itself.
func (g graph) circling() flags {
	var f flags
	for _, class := range g.classes() {
		for _, s := range class {
			f[s] = len(class) > 1
		}
	}
	for s := range g {
		for x := range g.edges(s) {
			f[s] = f[s] || x.To == s
		}
	}
	return f
}

// classes returns the classes of strongly connected states. Of those that are left, the state that was completed last is reached backward only by states of its class.
func (g graph) classes() [][]int {
	var classes [][]int
	var placed flags
	back := g.turned()
	for _, s := range slices.Backward(g.completed()) {
		var class []int
		for _, v := range back.spread([]int{s}, &placed) {
			class = append(class, v.state)
		}
		if len(class) > 0 {
			slices.Sort(class)
			classes = append(classes, class)
		}
	}
	slices.SortFunc(classes, func(x, y []int) int { return cmp.Compare(x[0], y[0]) })
	return classes
}

// completed returns all states in the order in which a depth-first search leaves them.
func (g graph) completed() []int {
	var left []int
	var seen flags
	var enter func(s int)
	enter = func(s int) {
		if seen[s] {
			return
		}
		seen[s] = true
		for x := range g.edges(s) {
			enter(x.To)
		}
		left = append(left, s)
	}
	for s := range g {
		enter(s)
	}
	return left
}

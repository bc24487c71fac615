package minimal

import "overseer/api"

// state is a state of a graph, with the edges that leave it, in order.
type state struct {
	marked bool
	edges  []api.Edge
}

// graph is the states of automata.
type graph []state

// graphOf puts the states of automata one after the other.
func graphOf(l ...api.Automaton) graph {
	var g graph
	for _, a := range l {
		first := len(g)
		g = append(g, make(graph, a.States)...)
		for _, s := range a.Marked {
			g[first+s].marked = true
		}
		for _, x := range a.Edges {
			s := &g[first+x.From]
			s.edges = append(s.edges, api.Edge{From: first + x.From, Event: x.Event, To: first + x.To})
		}
	}
	return g
}

// signature returns a text that tells of a state whether it is marked, and by which events its edges lead to which classes.
func (g graph) signature(s int, class []int) string {
	text := make([]byte, 0, 1+3*len(g[s].edges))
	if g[s].marked {
		text = append(text, 'm')
	}
	for _, x := range g[s].edges {
		c := class[x.To]
		text = append(text, byte(x.Event), byte(c>>8), byte(c))
	}
	return string(text)
}

// isConsistent reports whether all states of a class have the signature of its first state.
func (g graph) isConsistent(class, firsts []int) bool {
	for s := range g {
		if g.signature(s, class) != g.signature(firsts[class[s]], class) {
			return false
		}
	}
	return true
}

// pair is two states, of which one may be nowhere.
type pair [2]int

const nowhere = -1

// step is the event that led to a pair from another one.
type step struct {
	before pair
	event  int
}

// distinguish returns the least word that distinguishes the states of a pair. Pairs are found in the order of their least words. A pair whose states are connected by earlier pairs need not be looked at: a word that distinguishes it also distinguishes one of these, to which a lesser word has led.
func (g graph) distinguish(start pair) (word []int, found bool) {
	if g.differ(start) {
		return nil, true
	}
	l := lotsOf(len(g))
	l.join(start)
	seen := map[pair]step{start: {}}
	for queue := []pair{start}; len(queue) > 0; queue = queue[1:] {
		for event, next := range g.moves(queue[0]) {
			switch {
			case next == pair{nowhere, nowhere}:
			case g.differ(next):
				return append(wordTo(start, queue[0], seen), event), true
			case l.join(next):
				seen[next] = step{before: queue[0], event: event}
				queue = append(queue, next)
			}
		}
	}
	return nil, false
}

// differ reports whether the empty word distinguishes two states.
func (g graph) differ(p pair) bool {
	if p[0] == nowhere || p[1] == nowhere {
		return p[0] != p[1]
	}
	return g[p[0]].marked != g[p[1]].marked
}

// moves returns for each event the pair to which it leads.
func (g graph) moves(p pair) [api.MaxEvents]pair {
	var next [api.MaxEvents]pair
	for event := range next {
		next[event] = pair{nowhere, nowhere}
	}
	for i, s := range p {
		for _, x := range g[s].edges {
			next[x.Event][i] = x.To
		}
	}
	return next
}

// wordTo returns the word that led from a pair to another one.
func wordTo(start, p pair, seen map[pair]step) []int {
	if p == start {
		return nil
	}
	s := seen[p]
	return append(wordTo(start, s.before, seen), s.event)
}

// lots joins states to lots: each state has another one of its lot, up to the one that stands for the lot and has itself.
type lots []int

func lotsOf(n int) lots {
	l := make(lots, n)
	for s := range l {
		l[s] = s
	}
	return l
}

func (l lots) lot(s int) int {
	for l[s] != s {
		l[s] = l[l[s]]
		s = l[s]
	}
	return s
}

// join makes the lots of two states one, and reports whether they were different.
func (l lots) join(p pair) bool {
	x, y := l.lot(p[0]), l.lot(p[1])
	l[x] = y
	return x != y
}

package blocking

import (
	"slices"

	"overseer/api"
	"overseer/reach"
)

// ranksOf returns the rank of each state of a valid automaton.
func ranksOf(a api.Automaton) []int {
	return distances(a, a.Marked)
}

// blockedOf returns the blocked states of a valid automaton.
func blockedOf(a api.Automaton) []int {
	ranks := ranksOf(a)
	return where(a.States, func(s int) bool { return ranks[s] < 0 })
}

// distances returns for each state the least length of a word that leads from it to one of some states, or -1. They are spread backwards: a state comes into the queue when it gets its distance.
func distances(a api.Automaton, targets []int) []int {
	distance := slices.Repeat([]int{-1}, a.States)
	for _, s := range targets {
		distance[s] = 0
	}
	sources := sourcesOf(a)
	queue := slices.Clone(targets)
	for i := 0; i < len(queue); i++ {
		for _, s := range sources[queue[i]] {
			if distance[s] < 0 {
				distance[s] = distance[queue[i]] + 1
				queue = append(queue, s)
			}
		}
	}
	return distance
}

// sourcesOf returns for each state the states from which edges lead to it. They are parts of one list, each with the capacity that it needs, so that filling one does not touch the next one.
func sourcesOf(a api.Automaton) [][]int {
	counts := make([]int, a.States)
	for _, x := range a.Edges {
		counts[x.To]++
	}
	free := make([]int, len(a.Edges))
	sources := make([][]int, a.States)
	for s, n := range counts {
		sources[s], free = free[:0:n], free[n:]
	}
	for _, x := range a.Edges {
		sources[x.To] = append(sources[x.To], x.From)
	}
	return sources
}

// test tells of a state to which no earlier test of a list applies whether it is of a kind.
type test struct {
	kind int
	is   func(s int) bool
}

// testsOf returns the tests of the states of a valid automaton, one of which applies to each state. The first two leave only blocked states: what these reach is not marked, so a state without edges among it is a deadlock.
func testsOf(a api.Automaton) []test {
	ranks := ranksOf(a)
	dead, _ := reach.Dead(a)
	toDead := distances(a, dead)
	return []test{
		{Marked, func(s int) bool { return ranks[s] == 0 }},
		{Live, func(s int) bool { return ranks[s] > 0 }},
		{Deadlock, func(s int) bool { return toDead[s] == 0 }},
		{Doomed, func(s int) bool { return toDead[s] > 0 }},
		{Livelock, func(int) bool { return true }},
	}
}

// kindsOf returns the kind of each state of a valid automaton.
func kindsOf(a api.Automaton) []int {
	tests := testsOf(a)
	kinds := make([]int, a.States)
	for s := range kinds {
		first := slices.IndexFunc(tests, func(t test) bool { return t.is(s) })
		kinds[s] = tests[first].kind
	}
	return kinds
}

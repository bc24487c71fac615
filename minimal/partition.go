package minimal

import (
	"cmp"
	"slices"
)

// partition divides the states of a graph into classes.
type partition struct {
	graph
	class   []int   // of each state
	members [][]int // of each class
}

// refined returns the classes of equivalent states, in any order. It begins with one class, and divides classes until nothing changes. Only states with an edge to a state whose class has changed are looked at again.
func (g graph) refined() []int {
	p := partition{graph: g, class: make([]int, len(g)), members: [][]int{numbers(len(g))}}
	sources := g.sources()
	for open := numbers(len(g)); len(open) > 0; {
		var next []int
		for _, s := range p.divideAll(open) {
			next = append(next, sources[s]...)
		}
		open = next
	}
	return p.class
}

func numbers(n int) []int {
	l := make([]int, n)
	for i := range l {
		l[i] = i
	}
	return l
}

// sources returns for each state those with an edge to it.
func (g graph) sources() [][]int {
	l := make([][]int, len(g))
	for s := range g {
		for _, x := range g[s].edges {
			l[x.To] = append(l[x.To], s)
		}
	}
	return l
}

// divideAll divides the classes of some states, and returns the states whose class has changed.
func (p *partition) divideAll(open []int) []int {
	slices.SortFunc(open, func(x, y int) int {
		return cmp.Or(cmp.Compare(p.class[x], p.class[y]), cmp.Compare(x, y))
	})
	open = slices.Compact(open)
	var changed []int
	for len(open) > 0 {
		class := p.class[open[0]]
		n := slices.IndexFunc(open, func(s int) bool { return p.class[s] != class })
		if n < 0 {
			n = len(open)
		}
		changed = append(changed, p.divide(class, open[:n])...)
		open = open[n:]
	}
	return changed
}

// divide divides a class by the signatures of those of its states that are open, and returns the states whose class has changed. The other states of the class still have the signature that all of them had, and that no open state has any more. The largest part keeps the class, so that few states change.
func (p *partition) divide(class int, open []int) []int {
	parts := p.bySignature(open)
	isOpen := func(s int) bool {
		_, is := slices.BinarySearch(open, s)
		return is
	}
	if rest := slices.DeleteFunc(p.members[class], isOpen); len(rest) > 0 {
		parts = append(parts, rest)
	}
	bySize := func(x, y []int) int { return cmp.Compare(len(y), len(x)) }
	slices.SortStableFunc(parts, bySize)
	p.members[class] = parts[0]
	var changed []int
	for _, part := range parts[1:] {
		for _, s := range part {
			p.class[s] = len(p.members)
		}
		p.members = append(p.members, part)
		changed = append(changed, part...)
	}
	return changed
}

// bySignature divides states into lists of those with the same signature.
func (p *partition) bySignature(states []int) [][]int {
	var parts [][]int
	numbers := map[string]int{}
	for _, s := range states {
		text := p.signature(s, p.class)
		n, known := numbers[text]
		if !known {
			n = len(parts)
			numbers[text] = n
			parts = append(parts, nil)
		}
		parts[n] = append(parts[n], s)
	}
	return parts
}

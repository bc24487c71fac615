package ordering

import "overseer/bdd"

// layers is a diagram in which variables that follow each other can be exchanged: it has the nodes at each position, by their branches. A node keeps its number, and stands for the same function in all orders; so nothing has to be changed in the layers above and below both.
type layers struct {
	nodes []node
	free  []int
	at    [bdd.MaxVariables]map[[2]int]int
	size  int
}

// node has the number of nodes that lead to it, because it is dropped with the last one of them. (To the root, none leads at all.)
type node struct{ position, low, high, uses int }

// layersOf returns the layers of a diagram.
func layersOf(f bdd.Diagram) *layers {
	l := &layers{nodes: make([]node, 2)}
	for i := range l.at {
		l.at[i] = map[[2]int]int{}
	}
	numbers := []int{0, 1}
	for _, n := range f.Nodes {
		numbers = append(numbers, l.find(n.Variable, numbers[n.Low], numbers[n.High]))
	}
	return l
}

// find returns the number of the function that asks the variable at a position.
func (l *layers) find(position, low, high int) int {
	if low == high {
		return low
	}
	k, known := l.at[position][[2]int{low, high}]
	if known {
		return k
	}
	if last := len(l.free) - 1; last >= 0 {
		k, l.free = l.free[last], l.free[:last]
	} else {
		k = len(l.nodes)
		l.nodes = append(l.nodes, node{})
	}
	l.nodes[k] = node{position: position}
	l.size++
	l.lead(k, low, high)
	return k
}

// lead gives a node its branches.
func (l *layers) lead(k, low, high int) {
	l.nodes[low].uses++
	l.nodes[high].uses++
	l.nodes[k].low, l.nodes[k].high = low, high
	l.at[l.nodes[k].position][[2]int{low, high}] = k
}

// release takes back a use of a node, and drops it if this was the last one.
func (l *layers) release(k int) {
	l.nodes[k].uses--
	if k < 2 || l.nodes[k].uses > 0 {
		return
	}
	n := l.nodes[k]
	delete(l.at[n.position], [2]int{n.low, n.high})
	l.free = append(l.free, k)
	l.size--
	l.release(n.low)
	l.release(n.high)
}

// branches returns what a function is for both values of the variable at a position, which is the first one that it may ask.
func (l *layers) branches(k, position int) (low, high int) {
	if !l.asks(k, position) {
		return k, k
	}
	return l.nodes[k].low, l.nodes[k].high
}

// exchange exchanges the variables at a position and at the next one. Nodes that ask one of them go where it goes; those that ask both now ask the other one first.
func (l *layers) exchange(position int) {
	upper := l.at[position]
	l.at[position], l.at[position+1] = l.at[position+1], map[[2]int]int{}
	for _, k := range l.at[position] {
		l.nodes[k].position = position
	}
	var both []int
	for branches, k := range upper {
		if l.asks(branches[0], position) || l.asks(branches[1], position) {
			both = append(both, k)
		} else {
			l.nodes[k].position = position + 1
			l.at[position+1][branches] = k
		}
	}
	for _, k := range both {
		n := l.nodes[k]
		low0, low1 := l.branches(n.low, position)
		high0, high1 := l.branches(n.high, position)
		l.lead(k, l.find(position+1, low0, high0), l.find(position+1, low1, high1))
		l.release(n.low)
		l.release(n.high)
	}
}

// asks reports whether a function asks the variable at a position first.
func (l *layers) asks(k, position int) bool { return k >= 2 && l.nodes[k].position == position }

package bdd

import (
	"overseer/alphabet"
	"overseer/api"
)

// store holds the nodes of functions while these are calculated, each node once. Functions are numbered as in a diagram.
type store struct {
	nodes   []Node
	numbers map[Node]int
	most    int
}

func newStore() *store { return &store{numbers: map[Node]int{}} }

// limit allows as many further nodes as a diagram can have.
func (s *store) limit() { s.most = len(s.nodes) + MaxNodes }

// isFull reports whether there are more nodes than are allowed. Then results do not matter any more.
func (s *store) isFull() bool { return s.most > 0 && len(s.nodes) > s.most }

// number returns the number of the function that asks a variable.
func (s *store) number(variable, low, high int) int {
	if low == high {
		return low
	}
	n := Node{variable, low, high}
	k, known := s.numbers[n]
	if !known {
		s.nodes = append(s.nodes, n)
		k = len(s.nodes) + 1
		s.numbers[n] = k
	}
	return k
}

// load returns the number of the function of a diagram.
func (s *store) load(f Diagram) int { return fold(f, 0, 1, s.number) }

// rebuild returns the number of the function of a diagram in which what follows from both values of each variable of a set is joined.
func (s *store) rebuild(f Diagram, set []int, join func(low, high int) int) int {
	return fold(f, 0, 1, func(variable, low, high int) int {
		if alphabet.Contains(set, variable) {
			return join(low, high)
		}
		return s.number(variable, low, high)
	})
}

// fromTable returns the number of the function of a variable and the following ones that has a table.
func (s *store) fromTable(variable int, values []bool) int {
	if len(values) == 1 {
		return numberOf(values[0])
	}
	half := len(values) / 2
	return s.number(variable, s.fromTable(variable+1, values[:half]), s.fromTable(variable+1, values[half:]))
}

// branches returns what a function, which asks no lesser variable, is where a variable is false, and where it is true.
func (s *store) branches(k, variable int) (low, high int) { return branches(s.nodes, k, variable) }

// first returns the least variable that one of some functions asks.
func (s *store) first(l ...int) int {
	variable := MaxVariables
	for _, k := range l {
		variable = min(variable, variableOf(s.nodes, k))
	}
	return variable
}

// combiner returns a function that combines two functions by an operation. All nodes that it makes for one result belong to this result, because they are what it is where some first variables have values: so too many of them are too many for the result.
func (s *store) combiner(op func(x, y bool) bool) func(x, y int) int {
	results := map[[2]int]int{}
	var combined func(x, y int) int
	combined = func(x, y int) int {
		if k, is := simple(x, y, op); is {
			return k
		}
		pair := [2]int{x, y}
		if k, known := results[pair]; known || s.isFull() {
			return k
		}
		variable := s.first(x, y)
		x0, x1 := s.branches(x, variable)
		y0, y1 := s.branches(y, variable)
		k := s.number(variable, combined(x0, y0), combined(x1, y1))
		results[pair] = k
		return k
	}
	return combined
}

// simple returns the result of an operation if it is a constant or one of both functions, as far as this can be seen without a look at their nodes.
func simple(x, y int, op func(x, y bool) bool) (k int, is bool) {
	var low, high bool
	switch {
	case x < 2 && y < 2:
		return numberOf(op(x == 1, y == 1)), true
	case x < 2:
		low, high = op(x == 1, false), op(x == 1, true)
	case y < 2:
		low, high = op(false, y == 1), op(true, y == 1)
	case x == y:
		low, high = op(false, false), op(true, true)
	default:
		return 0, false
	}
	if low == high {
		return numberOf(low), true
	}
	if high {
		return max(x, y), true
	}
	return 0, false
}

// chooser returns a function that chooses between two functions by another one, which comes first. What combiner says of nodes holds here as well.
func (s *store) chooser() func(x, y, z int) int {
	results := map[[3]int]int{}
	var chosen func(x, y, z int) int
	chosen = func(x, y, z int) int {
		switch {
		case x == 1 || y == z:
			return y
		case x == 0:
			return z
		}
		triple := [3]int{x, y, z}
		if k, known := results[triple]; known || s.isFull() {
			return k
		}
		variable := s.first(x, y, z)
		x0, x1 := s.branches(x, variable)
		y0, y1 := s.branches(y, variable)
		z0, z1 := s.branches(z, variable)
		k := s.number(variable, chosen(x0, y0, z0), chosen(x1, y1, z1))
		results[triple] = k
		return k
	}
	return chosen
}

// diagram returns the canonical diagram of a function: its nodes in the order in which they are finished.
func (s *store) diagram(variables, root int) (Diagram, api.Errno) {
	f := Diagram{Variables: variables}
	numbers := map[int]int{0: 0, 1: 1}
	var goThrough func(k int) int
	goThrough = func(k int) int {
		number, known := numbers[k]
		if known || len(f.Nodes) > MaxNodes {
			return number
		}
		n := s.nodes[k-2]
		low, high := goThrough(n.Low), goThrough(n.High)
		f.Nodes = append(f.Nodes, Node{n.Variable, low, high})
		numbers[k] = len(f.Nodes) + 1
		return numbers[k]
	}
	f.Root = goThrough(root)
	if s.isFull() || len(f.Nodes) > MaxNodes {
		return Diagram{}, api.ErrLimit
	}
	return f, api.OK
}

package bdd

// variableOf returns the variable that a function asks, or for constants a number that is greater than all variables.
func variableOf(nodes []Node, k int) int {
	if k < 2 {
		return MaxVariables
	}
	return nodes[k-2].Variable
}

// branches returns what a function, which asks no lesser variable, is where a variable is false, and where it is true.
func branches(nodes []Node, k, variable int) (low, high int) {
	if variableOf(nodes, k) != variable {
		return k, k
	}
	n := nodes[k-2]
	return n.Low, n.High
}

// fold returns what a rule makes of the function of a diagram, if it is given what it makes of Low and High of each node.
func fold[T any](f Diagram, no, yes T, rule func(variable int, low, high T) T) T {
	results := append(make([]T, 0, len(f.Nodes)+2), no, yes)
	for _, n := range f.Nodes {
		results = append(results, rule(n.Variable, results[n.Low], results[n.High]))
	}
	return results[f.Root]
}

// at returns the value of a function for an assignment.
func (f Diagram) at(isTrue func(variable int) bool) bool {
	k := f.Root
	for k >= 2 {
		n := f.Nodes[k-2]
		if isTrue(n.Variable) {
			k = n.High
		} else {
			k = n.Low
		}
	}
	return k == 1
}

// count returns how many assignments make a function true. Just half of those of Low and of High count for a node, which do not depend on its variable.
func (f Diagram) count() int {
	return fold(f, 0, 1<<f.Variables, func(_, low, high int) int { return (low + high) / 2 })
}

// each yields the assignments that make a function true, in order, all in the same list.
func (f Diagram) each(yield func(bits []bool) bool) {
	bits := make([]bool, f.Variables)
	var from func(variable, k int) bool
	from = func(variable, k int) bool {
		if k == 0 {
			return true
		}
		if variable == f.Variables {
			return yield(bits)
		}
		low, high := branches(f.Nodes, k, variable)
		bits[variable] = false
		if !from(variable+1, low) {
			return false
		}
		bits[variable] = true
		return from(variable+1, high)
	}
	from(0, f.Root)
}

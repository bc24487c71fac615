package bdd

import (
	"overseer/alphabet"
	"overseer/api"
	"overseer/nodes"
)

// load returns the number of the function of a diagram.
func load(s *nodes.Store, f Diagram) int { return nodes.Load(s, f.Nodes, f.Root) }

// diagramOf returns the canonical diagram of a function: its nodes in the order in which they are finished.
func diagramOf(s *nodes.Store, variables, k int) (Diagram, api.Errno) {
	l, root, few := nodes.List[Node](s, k, MaxNodes)
	if !few {
		return Diagram{}, api.ErrLimit
	}
	return Diagram{Variables: variables, Nodes: l, Root: root}, api.OK
}

// rebuild returns the number of the function of a diagram in which what follows from both values of each variable of a set is joined.
func rebuild(s *nodes.Store, f Diagram, set []int, join func(low, high int) int) int {
	return fold(f, 0, 1, func(variable, low, high int) int {
		if alphabet.Contains(set, variable) {
			return join(low, high)
		}
		return s.Number(variable, low, high)
	})
}

// fromTable returns the number of the function of a variable and the following ones that has a table.
func fromTable(s *nodes.Store, variable int, values []bool) int {
	if len(values) == 1 {
		return numberOf(values[0])
	}
	half := len(values) / 2
	return s.Number(variable, fromTable(s, variable+1, values[:half]), fromTable(s, variable+1, values[half:]))
}

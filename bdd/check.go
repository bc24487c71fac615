package bdd

import "overseer/api"

// Check returns the error of a diagram.
func Check(f Diagram) api.Errno {
	if e := checkVariables(f.Variables); e != api.OK {
		return e
	}
	if len(f.Nodes) > MaxNodes {
		return api.ErrLimit
	}
	if e := f.checkNodes(); e != api.OK {
		return e
	}
	if f.Root < 0 || f.Root > len(f.Nodes)+1 {
		return api.ErrRange
	}
	if !f.isInOrder() {
		return api.ErrForm
	}
	return api.OK
}

func checkVariables(variables int) api.Errno {
	if variables < 0 || variables > MaxVariables {
		return api.ErrRange
	}
	return api.OK
}

func (f Diagram) checkNodes() api.Errno {
	known := make(map[Node]bool, len(f.Nodes))
	for i, n := range f.Nodes {
		switch {
		case n.Variable < 0 || n.Variable >= f.Variables || min(n.Low, n.High) < 0 || max(n.Low, n.High) > i+1:
			return api.ErrRange
		case n.Low == n.High || known[n]:
			return api.ErrForm
		case n.Variable >= min(variableOf(f.Nodes, n.Low), variableOf(f.Nodes, n.High)):
			return api.ErrOrder
		}
		known[n] = true
	}
	return api.OK
}

// isInOrder reports whether the nodes stand in the order in which they are finished. As long as they do, those that have been gone through are the first ones.
func (f Diagram) isInOrder() bool {
	done := 2
	var goThrough func(k int) bool
	goThrough = func(k int) bool {
		if k < done {
			return true
		}
		n := f.Nodes[k-2]
		if !goThrough(n.Low) || !goThrough(n.High) || k != done {
			return false
		}
		done++
		return true
	}
	return goThrough(f.Root) && done == len(f.Nodes)+2
}

// checkAll returns the first error of some diagrams, or that of their numbers of variables.
func checkAll(l ...Diagram) api.Errno {
	for _, f := range l {
		if e := Check(f); e != api.OK {
			return e
		}
	}
	for _, f := range l {
		if f.Variables != l[0].Variables {
			return api.ErrSize
		}
	}
	return api.OK
}

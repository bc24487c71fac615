package ordering

import (
	"cmp"
	"iter"
	"slices"

	"overseer/api"
	"overseer/bdd"
)

// Sift moves each variable once to its best position.
func Sift(f bdd.Diagram, order []int) ([]int, int, api.Errno) {
	return search(f, order, (*sifter).sift)
}

// Improve sifts as long as this makes the diagram smaller.
func Improve(f bdd.Diagram, order []int) ([]int, int, api.Errno) {
	return search(f, order, func(s *sifter) api.Errno {
		for {
			before := s.size
			if e := s.sift(); e != api.OK || s.size >= before {
				return e
			}
		}
	})
}

// sifter has an order, and the layers of a diagram in it. The sizes in orders that were examined are kept.
type sifter struct {
	*layers
	order []int
	sizes map[positions]int
}

// search returns the order to which a method comes from an order, with the size in it.
func search(f bdd.Diagram, order []int, method func(s *sifter) api.Errno) ([]int, int, api.Errno) {
	if e := checkBoth(f, order); e != api.OK {
		return nil, 0, e
	}
	g, e := permuted(f, order)
	if e != api.OK {
		return nil, 0, e
	}
	s := &sifter{layersOf(g), slices.Clone(order), map[positions]int{}}
	if e := method(s); e != api.OK {
		return nil, 0, e
	}
	return s.order, s.size, api.OK
}

// sift moves the variables, one after another, to the first of the positions in which the size is least.
func (s *sifter) sift() api.Errno {
	for variable := range s.order {
		order, from := slices.Clone(s.order), slices.Index(s.order, variable)
		best, least := 0, 0
		for to := range order {
			size, e := s.sizeIn(moved(order, from, to), variable, to)
			if e != api.OK {
				return e
			}
			if to == 0 || size < least {
				best, least = to, size
			}
		}
		if e := s.move(variable, best); e != api.OK {
			return e
		}
	}
	return api.OK
}

// sizeIn returns the size in the order in which a variable is at a position.
func (s *sifter) sizeIn(order []int, variable, position int) (int, api.Errno) {
	var key positions
	copy(key[:], order)
	if size, known := s.sizes[key]; known {
		return size, api.OK
	}
	if e := s.move(variable, position); e != api.OK {
		return 0, e
	}
	s.sizes[key] = s.size
	return s.size, api.OK
}

// move moves a variable to a position, past one other variable after another. All orders on the way are examined as well, so that none of them may have too many nodes.
func (s *sifter) move(variable, position int) api.Errno {
	for at := slices.Index(s.order, variable); at != position; {
		next := at + cmp.Compare(position, at)
		s.exchange(min(at, next))
		s.order[at], s.order[next] = s.order[next], s.order[at]
		at = next
		if s.size > bdd.MaxNodes {
			return api.ErrLimit
		}
	}
	return api.OK
}

// Least returns the first of the orders in which a function has the least size, and this size.
func Least(f bdd.Diagram) ([]int, int, api.Errno) {
	if e := bdd.Check(f); e != api.OK {
		return nil, 0, e
	}
	if f.Variables > MaxLeast {
		return nil, 0, api.ErrLimit
	}
	var best []int
	least := 0
	for order := range orders(f.Variables) {
		g, _ := permuted(f, order) // has no error: no function of so few variables has too many nodes
		if best == nil || len(g.Nodes) < least {
			best, least = order, len(g.Nodes)
		}
	}
	return best, least, api.OK
}

// orders yields all orders of n variables, the lexicographically least one first.
func orders(n int) iter.Seq[[]int] {
	return func(yield func(order []int) bool) {
		var from func(order []int) bool
		from = func(order []int) bool {
			if len(order) == n {
				return yield(slices.Clone(order))
			}
			for variable := range n {
				if !slices.Contains(order, variable) && !from(append(order, variable)) {
					return false
				}
			}
			return true
		}
		from(nil)
	}
}

// Package sets calculates with sets of codes, and with relations between codes, as the layers 11 and 13 represent them. However many nodes there are on the way, only those of a result are limited.
package sets

import (
	"iter"
	"slices"
	"sort"

	"overseer/api"
	"overseer/bdd"
	"overseer/nodes"
)

// Store holds the nodes of sets and relations.
type Store struct{ *nodes.Store }

// New returns an empty store.
func New() Store { return Store{nodes.New()} }

// Load returns the number of the function of a diagram.
func (s Store) Load(f bdd.Diagram) int { return nodes.Load(s.Store, f.Nodes, f.Root) }

// Diagram returns the diagram of a function.
func (s Store) Diagram(variables, k int) (bdd.Diagram, api.Errno) {
	l, root, few := nodes.List[bdd.Node](s.Store, k, bdd.MaxNodes)
	if !few {
		return bdd.Diagram{}, api.ErrLimit
	}
	return bdd.Diagram{Variables: variables, Nodes: l, Root: root}, api.OK
}

// Codes returns the function that is true where the variables from first on have one of some increasing codes of so many bits, and the rest, which asks later variables, is true.
func (s Store) Codes(first, bits int, codes []int, rest int) int {
	switch {
	case len(codes) == 0 || s.IsFull():
		return 0
	case len(codes) == 1<<bits:
		return rest
	}
	half := sort.Search(len(codes), func(i int) bool { return codes[i]>>(bits-1)&1 == 1 })
	return s.Number(first, s.Codes(first+1, bits-1, codes[:half], rest), s.Codes(first+1, bits-1, codes[half:], rest))
}

// Pairs returns the codes of some pairs of numbers of so many bits: the bits of both by turns.
func Pairs(bits int, l [][2]int) []int {
	codes := make([]int, 0, len(l))
	for _, pair := range l {
		code := 0
		for i := bits - 1; i >= 0; i-- {
			code = code<<2 | pair[0]>>i&1<<1 | pair[1]>>i&1
		}
		codes = append(codes, code)
	}
	slices.Sort(codes)
	return slices.Compact(codes)
}

// Spread returns the least set that contains a set and what a step leads to from its elements, and in how many rounds something is added. Elements are handed to the step only once. Nodes that the step makes in one round are forgotten in later ones.
func (s Store) Spread(f int, step func(fresh int) int) (reached, rounds int) {
	old := s.Len()
	most := enough(old)
	reached, fresh := f, f
	for {
		fresh = s.Minus(step(fresh), reached)
		if fresh == 0 {
			return reached, rounds
		}
		reached = s.Or(reached, fresh)
		rounds++
		if s.Len() > most {
			kept := s.Forget(old, reached, fresh)
			reached, fresh = kept[0], kept[1]
			most = enough(s.Len())
		}
	}
}

// enough is the number of nodes up to which it does not pay to forget some, if there were so many when it was last done.
func enough(nodes int) int { return 2*nodes + 1<<16 }

// Elements yields the codes of so many bits in a set, in increasing order.
func (s Store) Elements(bits, k int) iter.Seq[int] {
	return func(yield func(code int) bool) {
		var from func(bit, k, code int) bool
		from = func(bit, k, code int) bool {
			if k == 0 {
				return true
			}
			if bit == bits {
				return yield(code)
			}
			low, high := s.Branches(k, bit)
			return from(bit+1, low, 2*code) && from(bit+1, high, 2*code+1)
		}
		from(0, k, 0)
	}
}

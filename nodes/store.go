// Package nodes calculates with functions of true or false variables that share their nodes. The layers with decision diagrams use it, also where there are more nodes on the way than a diagram can have.
package nodes

import (
	"math"
	"slices"
)

// Node asks a variable: Low is the number of the function if it is false, High if it is true.
type Node struct{ Variable, Low, High int }

// None is what constants ask instead of a variable. It is greater than all variables.
const None = math.MaxInt

// Store holds the nodes of functions, each node once, so that functions are equal exactly if their numbers are: 0 is the one that is always false, 1 the one that is always true, and k from 2 on that of the node with the index k - 2.
type Store struct {
	nodes   []Node
	numbers map[Node]int
	most    int
}

// New returns a store without nodes, which has no limit.
func New() *Store { return &Store{numbers: map[Node]int{}, most: math.MaxInt} }

// Len returns how many nodes there are.
func (s *Store) Len() int { return len(s.nodes) }

// Limit allows so many further nodes.
func (s *Store) Limit(further int) { s.most = len(s.nodes) + further }

// IsFull reports whether there are more nodes than are allowed. Then results do not matter any more.
func (s *Store) IsFull() bool { return len(s.nodes) > s.most }

// Number returns the number of the function that asks a variable, a lesser one than low and high do.
func (s *Store) Number(variable, low, high int) int {
	if low == high {
		return low
	}
	n := Node{variable, low, high}
	k, known := s.numbers[n]
	if !known {
		s.nodes = append(s.nodes, n)
		k = len(s.nodes) + 1
		s.numbers[n] = k
	}
	return k
}

// Variable returns the variable that a function asks first.
func (s *Store) Variable(k int) int {
	if k < 2 {
		return None
	}
	return s.nodes[k-2].Variable
}

// Branches returns what a function, which asks no lesser variable, is where a variable is false, and where it is true.
func (s *Store) Branches(k, variable int) (low, high int) {
	if s.Variable(k) != variable {
		return k, k
	}
	n := s.nodes[k-2]
	return n.Low, n.High
}

// like is any type of nodes: those of diagrams are of their own type.
type like interface {
	~struct{ Variable, Low, High int }
}

// Load returns the number of the function with a root among some nodes, which are numbered by their places.
func Load[N like](s *Store, l []N, root int) int {
	numbers := append(make([]int, 0, len(l)+2), 0, 1)
	for _, x := range l {
		n := Node(x)
		numbers = append(numbers, s.Number(n.Variable, numbers[n.Low], numbers[n.High]))
	}
	return numbers[root]
}

// List returns the nodes of a function in the order in which they are finished, and its root among them; false if there are more than most, or the store is full.
func List[N like](s *Store, k, most int) (l []N, root int, few bool) {
	numbers := map[int]int{0: 0, 1: 1}
	var goThrough func(k int) int
	goThrough = func(k int) int {
		number, known := numbers[k]
		if known || len(l) > most {
			return number
		}
		n := s.nodes[k-2]
		low, high := goThrough(n.Low), goThrough(n.High)
		l = append(l, N(Node{n.Variable, low, high}))
		numbers[k] = len(l) + 1
		return numbers[k]
	}
	root = goThrough(k)
	if s.IsFull() || len(l) > most {
		return nil, 0, false
	}
	return l, root, true
}

// Forget drops all nodes but some first ones and those of some functions, and returns the new numbers of these.
func (s *Store) Forget(first int, l ...int) []int {
	old := s.nodes[first:]
	for _, n := range old {
		delete(s.numbers, n)
	}
	s.nodes = slices.Clone(s.nodes[:first])
	again := map[int]int{}
	var number func(k int) int
	number = func(k int) int {
		if k < first+2 {
			return k
		}
		if _, known := again[k]; !known {
			n := old[k-2-first]
			again[k] = s.Number(n.Variable, number(n.Low), number(n.High))
		}
		return again[k]
	}
	numbers := make([]int, len(l))
	for i, k := range l {
		numbers[i] = number(k)
	}
	return numbers
}

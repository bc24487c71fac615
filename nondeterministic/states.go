package nondeterministic

import (
	"iter"
	"math/bits"
	"slices"

	"overseer/api"
)

// wordSize is the number of states in one element of a set.
const wordSize = 64

// states is a set of states, with a bit for each of them.
type states [api.MaxStates / wordSize]uint64

func statesOf(set []int) states {
	var s states
	for _, x := range set {
		s.add(x)
	}
	return s
}

// add puts a state into a set, and reports whether it is new there.
func (s *states) add(x int) bool {
	bit := uint64(1) << (x % wordSize)
	isNew := s[x/wordSize]&bit == 0
	s[x/wordSize] |= bit
	return isNew
}

// meets reports whether two sets have a state in common.
func (s *states) meets(t states) bool {
	for i := range s {
		if s[i]&t[i] != 0 {
			return true
		}
	}
	return false
}

// all yields the states of a set in increasing order.
func (s *states) all() iter.Seq[int] {
	return func(yield func(int) bool) {
		for i, word := range s {
			for ; word != 0; word &= word - 1 {
				if !yield(i*wordSize + bits.TrailingZeros64(word)) {
					return
				}
			}
		}
	}
}

// list returns the states of a set in increasing order.
func (s *states) list() []int {
	return slices.Collect(s.all())
}

// text returns a text that no other set has.
func (s *states) text() string {
	text := make([]byte, 0, api.MaxStates/8)
	for _, word := range s {
		for shift := 0; shift < wordSize; shift += 8 {
			text = append(text, byte(word>>shift))
		}
	}
	return string(text)
}

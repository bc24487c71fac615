package exclusion

import (
	"slices"

	"overseer/alphabet"
	"overseer/api"
)

// Count says how much each occurrence of an event adds to a sum that stays from Low to High; it is marked where it is one of Marked.
type Count struct {
	Events, Factors []int
	Low, High       int
	Marked          []int
}

// checkCount returns the error of a count.
func checkCount(x Count) api.Errno {
	if e := alphabet.CheckSet(x.Events, api.MaxEvents); e != api.OK {
		return e
	}
	if len(x.Factors) != len(x.Events) {
		return api.ErrSize
	}
	for _, factor := range x.Factors {
		if !isValue(factor) {
			return api.ErrRange
		}
	}
	if x.Low > 0 || x.High < 0 || !isValue(x.Low) || !isValue(x.High) {
		return api.ErrRange
	}
	for i, sum := range x.Marked {
		switch {
		case sum < x.Low || sum > x.High:
			return api.ErrRange
		case i > 0 && sum <= x.Marked[i-1]:
			return api.ErrOrder
		}
	}
	return api.OK
}

// Counter returns the automaton of a count.
func Counter(x Count) (api.Automaton, api.Errno) {
	if e := checkCount(x); e != api.OK {
		return api.Automaton{}, e
	}
	a := api.Automaton{Alphabet: slices.Clone(x.Events)}
	var sums []int
	states := map[int]int{}
	state := func(sum int) int {
		n, known := states[sum]
		if !known {
			n = len(sums)
			states[sum] = n
			sums = append(sums, sum)
		}
		return n
	}
	state(0)
	for n := 0; n < len(sums); n++ {
		if alphabet.Contains(x.Marked, sums[n]) {
			a.Marked = append(a.Marked, n)
		}
		for i, event := range x.Events {
			if sum := sums[n] + x.Factors[i]; x.Low <= sum && sum <= x.High {
				a.Edges = append(a.Edges, api.Edge{From: n, Event: event, To: state(sum)})
			}
		}
		if len(sums) > api.MaxStates {
			return api.Automaton{}, api.ErrLimit
		}
	}
	a.States = len(sums)
	return a, api.OK
}

package exclusion

import (
	"cmp"
	"slices"

	"overseer/api"
)

// absent returns the first component that a partial tuple leaves out, or -1. A partial tuple is a list of digits, too: the digit of a component is its state, or, if it is left out, the number of its states.
func absent(sizes, partial []int) int {
	for i, digit := range partial {
		if digit == sizes[i] {
			return i
		}
	}
	return -1
}

// partialBases returns the numbers of digits of components in partial tuples. A component with one state is never left out: it makes no difference whether it is.
func partialBases(sizes []int) []int {
	bases := slices.Clone(sizes)
	for i, size := range sizes {
		if size > 1 {
			bases[i]++
		}
	}
	return bases
}

// text returns a text that no other partial tuple has.
func text(partial []int) string {
	var b []rune
	for _, digit := range partial {
		b = append(b, rune(digit))
	}
	return string(b)
}

// with returns a partial tuple with another digit of a component.
func with(partial []int, component, digit int) []int {
	other := slices.Clone(partial)
	other[component] = digit
	return other
}

// partials is the texts of partial tuples that are bad.
type partials map[string]bool

// badPartials returns all that are bad. A partial tuple is looked at after those with one component more, as the digit that leaves it out is its greatest one.
func badPartials(c Conditions) partials {
	bad := partials{}
	l := conditionsOf(c)
	for partial := range numerals(partialBases(c.Sizes)) {
		i := absent(c.Sizes, partial)
		if i < 0 && first(l, partial) >= 0 || i >= 0 && bad.haveAll(partial, i, c.Sizes[i]) {
			bad[text(partial)] = true
		}
	}
	return bad
}

// haveAll reports whether a partial tuple is bad with each of the states of a component.
func (bad partials) haveAll(partial []int, component, states int) bool {
	for state := range states {
		if !bad[text(with(partial, component, state))] {
			return false
		}
	}
	return true
}

// isPrime reports whether a partial tuple is bad, but is not if a component is left out.
func (bad partials) isPrime(sizes, partial []int) bool {
	if !bad[text(partial)] {
		return false
	}
	for i, digit := range partial {
		if digit < sizes[i] && bad[text(with(partial, i, sizes[i]))] {
			return false
		}
	}
	return true
}

// localsOf returns the components of a partial tuple with their states, but those that have one state.
func localsOf(sizes, partial []int) []api.Local {
	var l []api.Local
	for i, digit := range partial {
		if digit < sizes[i] && sizes[i] > 1 {
			l = append(l, api.Local{Component: i, State: digit})
		}
	}
	return l
}

// Primes returns the least exclusions that are equivalent to all conditions together.
func Primes(c Conditions) ([]api.Exclusion, api.Errno) {
	if e := checkAll(c); e != api.OK {
		return nil, e
	}
	bad := badPartials(c)
	var primes []api.Exclusion
	for partial := range numerals(partialBases(c.Sizes)) {
		if !bad.isPrime(c.Sizes, partial) {
			continue
		}
		if len(primes) == MaxPrimes {
			return nil, api.ErrLimit
		}
		primes = append(primes, api.Exclusion{Locals: localsOf(c.Sizes, partial)})
	}
	slices.SortFunc(primes, compareExclusions)
	return primes, api.OK
}

// compareExclusions compares exclusions by the number of their Locals, then by these.
func compareExclusions(x, y api.Exclusion) int {
	return cmp.Or(cmp.Compare(len(x.Locals), len(y.Locals)), slices.CompareFunc(x.Locals, y.Locals, compareLocals))
}

func compareLocals(x, y api.Local) int {
	return cmp.Or(cmp.Compare(x.Component, y.Component), cmp.Compare(x.State, y.State))
}

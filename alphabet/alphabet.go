// Package alphabet contains events and sets of events. It is layer 1: see shared/doc/01-alphabet.md.
package alphabet

import (
	"math/bits"
	"slices"

	"overseer/api"
)

// The kinds of events that Select returns.
const (
	Controllable   = 1
	Uncontrollable = 2
	Observable     = 3
	Unobservable   = 4
	Forcible       = 5
	Faulty         = 6
)

// IsName reports whether a string is a name.
func IsName(s string) bool {
	if s == "" || len(s) > api.MaxName || isDigit(s[0]) {
		return false
	}
	for i := range len(s) {
		if !isDigit(s[i]) && !isLetter(s[i]) && s[i] != '_' {
			return false
		}
	}
	return true
}

func isDigit(b byte) bool {
	return '0' <= b && b <= '9'
}

func isLetter(b byte) bool {
	return 'a' <= b && b <= 'z' || 'A' <= b && b <= 'Z'
}

// Check returns the error of an alphabet.
func Check(l []api.Event) api.Errno {
	if len(l) > api.MaxEvents {
		return api.ErrLimit
	}
	first := firstIndices(l)
	for i, x := range l {
		if e := checkEvent(x, first[x.Name] < i); e != api.OK {
			return e
		}
	}
	return api.OK
}

func checkEvent(x api.Event, taken bool) api.Errno {
	switch {
	case !IsName(x.Name):
		return api.ErrName
	case taken:
		return api.ErrDuplicate
	case x.Fault < 0 || x.Fault > api.MaxFaults:
		return api.ErrRange
	case x.Fault != 0 && (x.Controllable || x.Observable):
		return api.ErrConflict
	}
	return api.OK
}

// firstIndices maps each name to the first event that has it.
func firstIndices(l []api.Event) map[string]int {
	first := make(map[string]int, len(l))
	for i, x := range l {
		if _, taken := first[x.Name]; !taken {
			first[x.Name] = i
		}
	}
	return first
}

// Find returns the index of the first event with a name.
func Find(l []api.Event, name string) (int, bool) {
	i, found := firstIndices(l)[name]
	return i, found
}

// Equal reports whether both alphabets have the same events in the same order.
func Equal(a, b []api.Event) bool {
	return slices.Equal(a, b)
}

// CheckSet returns the error of a set of indices below n.
func CheckSet(set []int, n int) api.Errno {
	for i, x := range set {
		if x < 0 || x >= n {
			return api.ErrRange
		}
		if i > 0 && x <= set[i-1] {
			return api.ErrOrder
		}
	}
	return api.OK
}

// Contains reports whether x is an element of a set.
func Contains(set []int, x int) bool {
	_, found := slices.BinarySearch(set, x)
	return found
}

// Union returns the set of the elements of one of two sets or of both.
func Union(a, b []int) []int {
	union := make([]int, 0, len(a)+len(b))
	for len(a) > 0 && len(b) > 0 {
		x := min(a[0], b[0])
		union = append(union, x)
		a, b = without(a, x), without(b, x)
	}
	return append(append(union, a...), b...)
}

// without leaves out the first element if it is x.
func without(set []int, x int) []int {
	if set[0] == x {
		return set[1:]
	}
	return set
}

// Intersect returns the set of the elements of both sets.
func Intersect(a, b []int) []int {
	return keep(a, func(x int) bool { return Contains(b, x) })
}

// Minus returns the set of the elements of a that b does not have.
func Minus(a, b []int) []int {
	return keep(a, func(x int) bool { return !Contains(b, x) })
}

func keep(set []int, is func(x int) bool) []int {
	var kept []int
	for _, x := range set {
		if is(x) {
			kept = append(kept, x)
		}
	}
	return kept
}

// Subset reports whether b has all elements of a.
func Subset(a, b []int) bool {
	for _, x := range a {
		if !Contains(b, x) {
			return false
		}
	}
	return true
}

// Select returns the events of a kind.
func Select(l []api.Event, kind int) ([]int, api.Errno) {
	if e := Check(l); e != api.OK {
		return nil, e
	}
	is := kindTest(kind)
	if is == nil {
		return nil, api.ErrKind
	}
	return where(l, is), api.OK
}

// kindTest returns the function that tests for a kind, or nil if there is no such kind.
func kindTest(kind int) func(x api.Event) bool {
	switch kind {
	case Controllable:
		return func(x api.Event) bool { return x.Controllable }
	case Uncontrollable:
		return func(x api.Event) bool { return !x.Controllable }
	case Observable:
		return func(x api.Event) bool { return x.Observable }
	case Unobservable:
		return func(x api.Event) bool { return !x.Observable }
	case Forcible:
		return func(x api.Event) bool { return x.Forcible }
	case Faulty:
		return func(x api.Event) bool { return x.Fault != 0 }
	}
	return nil
}

// where returns the indices of the events for which a function is true.
func where(l []api.Event, is func(x api.Event) bool) []int {
	var set []int
	for i, x := range l {
		if is(x) {
			set = append(set, i)
		}
	}
	return set
}

// Faults returns the events of a class of faults.
func Faults(l []api.Event, class int) ([]int, api.Errno) {
	if e := Check(l); e != api.OK {
		return nil, e
	}
	if class < 1 || class > api.MaxFaults {
		return nil, api.ErrRange
	}
	return where(l, func(x api.Event) bool { return x.Fault == class }), api.OK
}

// Names returns the names of a set of events.
func Names(l []api.Event, set []int) ([]string, api.Errno) {
	if e := Check(l); e != api.OK {
		return nil, e
	}
	if e := CheckSet(set, len(l)); e != api.OK {
		return nil, e
	}
	var names []string
	for _, x := range set {
		names = append(names, l[x].Name)
	}
	return names, api.OK
}

// Mask returns a set of events as bits.
func Mask(set []int) (uint32, api.Errno) {
	if e := CheckSet(set, api.MaxEvents); e != api.OK {
		return 0, e
	}
	var mask uint32
	for _, x := range set {
		mask |= 1 << x
	}
	return mask, api.OK
}

// Set returns the set of the bits of a mask.
func Set(mask uint32) []int {
	var set []int
	for ; mask != 0; mask &= mask - 1 {
		set = append(set, bits.TrailingZeros32(mask))
	}
	return set
}

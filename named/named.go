// Package named checks lists of things with names. It serves the packages that check models and cells.
package named

import (
	"overseer/alphabet"
	"overseer/api"
)

// Check returns the index and the error of the first of some things that has one: that of its name, ErrDuplicate if an earlier one has the same name, or what else is wrong with it.
func Check[T any](l []T, name func(x T) string, right func(name string) api.Errno, rest func(i int, x T) api.Errno) (index int, e api.Errno) {
	taken := map[string]bool{}
	for i, x := range l {
		n := name(x)
		if e := right(n); e != api.OK {
			return i, e
		}
		if taken[n] {
			return i, api.ErrDuplicate
		}
		taken[n] = true
		if e := rest(i, x); e != api.OK {
			return i, e
		}
	}
	return 0, api.OK
}

// CheckList returns the error of a list of different right names.
func CheckList(l []string, right func(name string) api.Errno) api.Errno {
	_, e := Check(l, func(s string) string { return s }, right, func(int, string) api.Errno { return api.OK })
	return e
}

// CheckName says of a string whether it is a name.
func CheckName(name string) api.Errno {
	if !alphabet.IsName(name) {
		return api.ErrName
	}
	return api.OK
}

// Index has the places of things by their names.
type Index map[string]int

// IndexOf returns the index of the first of some things for each name.
func IndexOf[T any](l []T, name func(x T) string) Index {
	index := Index{}
	for i, x := range l {
		if _, taken := index[name(x)]; !taken {
			index[name(x)] = i
		}
	}
	return index
}

// CheckKnown says of a name whether something has it.
func (l Index) CheckKnown(name string) api.Errno {
	if _, is := l[name]; !is {
		return api.ErrUnknown
	}
	return api.OK
}

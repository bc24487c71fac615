// Package word contains words: lists of events. It is layer 2: see shared/doc/02-word.md.
package word

import (
	"cmp"
	"slices"
	"strings"

	"overseer/alphabet"
	"overseer/api"
)

// MaxShuffled is the greatest number of events of two words that are shuffled.
const MaxShuffled = 12

// Check returns the error of a word over an alphabet.
func Check(w, alphabet []int) api.Errno {
	return checkOver(w, alphabet)
}

// checkOver does what Check does; there, the name of the second parameter hides the package.
func checkOver(w, set []int) api.Errno {
	if e := alphabet.CheckSet(set, api.MaxEvents); e != api.OK {
		return e
	}
	if len(w) > api.MaxWord {
		return api.ErrLimit
	}
	for _, x := range w {
		if !alphabet.Contains(set, x) {
			return api.ErrRange
		}
	}
	return api.OK
}

// Compare compares words by their lengths, and then lexicographically.
func Compare(a, b []int) int {
	if n := cmp.Compare(len(a), len(b)); n != 0 {
		return n
	}
	return slices.Compare(a, b)
}

// Equal reports whether two words are the same.
func Equal(a, b []int) bool {
	return slices.Equal(a, b)
}

// Concat joins words.
func Concat(l ...[]int) []int {
	var w []int
	for _, x := range l {
		w = append(w, x...)
	}
	return w
}

// Project leaves out all events that are not in a set.
func Project(w, set []int) []int {
	var kept []int
	for _, x := range w {
		if alphabet.Contains(set, x) {
			kept = append(kept, x)
		}
	}
	return kept
}

// IsPrefix reports whether a begins b.
func IsPrefix(a, b []int) bool {
	return len(a) <= len(b) && slices.Equal(a, b[:len(a)])
}

// Prefixes returns all beginnings of a word.
func Prefixes(w []int) [][]int {
	l := make([][]int, 0, len(w)+1)
	for n := range len(w) + 1 {
		l = append(l, slices.Clone(w[:n]))
	}
	return l
}

// Common returns the longest beginning of both words.
func Common(a, b []int) []int {
	n := 0
	for n < len(a) && n < len(b) && a[n] == b[n] {
		n++
	}
	return slices.Clone(a[:n])
}

// Shuffles returns all words in which two words run side by side.
func Shuffles(a, b []int) ([][]int, api.Errno) {
	if len(a)+len(b) > MaxShuffled {
		return nil, api.ErrLimit
	}
	var all [][]int
	var grow func(w, a, b []int)
	grow = func(w, a, b []int) {
		if len(a)+len(b) == 0 {
			all = append(all, slices.Clone(w))
			return
		}
		if len(a) > 0 {
			grow(append(w, a[0]), a[1:], b)
		}
		if len(b) > 0 {
			grow(append(w, b[0]), a, b[1:])
		}
	}
	grow(nil, a, b)
	slices.SortFunc(all, Compare)
	return slices.CompactFunc(all, Equal), api.OK
}

// IsShuffle reports whether w is a shuffle of a and b. It keeps, in increasing order, how many events of a can have been taken so far, because a single choice of the word that an event belongs to may be the wrong one.
func IsShuffle(w, a, b []int) bool {
	if len(w) != len(a)+len(b) {
		return false
	}
	taken, next := []int{0}, []int(nil)
	for k, x := range w {
		next = next[:0]
		for _, i := range taken {
			if k-i < len(b) && b[k-i] == x && (len(next) == 0 || next[len(next)-1] != i) {
				next = append(next, i)
			}
			if i < len(a) && a[i] == x {
				next = append(next, i+1)
			}
		}
		if len(next) == 0 {
			return false
		}
		taken, next = next, taken
	}
	return true
}

// Match returns the first word with two given projections.
func Match(a, first, b, second []int) (w []int, found bool, e api.Errno) {
	if e := Check(a, first); e != api.OK {
		return nil, false, e
	}
	if e := Check(b, second); e != api.OK {
		return nil, false, e
	}
	w, found = merge(a, b, alphabet.Intersect(first, second))
	return w, found, api.OK
}

// merge returns the least word in which two words agree on their common events. All such words are equally long, so that the least next event is always right.
func merge(a, b, common []int) ([]int, bool) {
	free := func(w []int) bool { return len(w) > 0 && !alphabet.Contains(common, w[0]) }
	var w []int
	for len(a) > 0 || len(b) > 0 {
		switch {
		case free(a) && (!free(b) || a[0] < b[0]):
			w, a = append(w, a[0]), a[1:]
		case free(b):
			w, b = append(w, b[0]), b[1:]
		case len(a) > 0 && len(b) > 0 && a[0] == b[0]:
			w, a, b = append(w, a[0]), a[1:], b[1:]
		default:
			return nil, false
		}
	}
	return w, true
}

// Text returns the text of a word.
func Text(events []api.Event, w []int) (string, api.Errno) {
	if e := alphabet.Check(events); e != api.OK {
		return "", e
	}
	if len(w) > api.MaxWord {
		return "", api.ErrLimit
	}
	names := make([]string, 0, len(w))
	for _, x := range w {
		if x < 0 || x >= len(events) {
			return "", api.ErrRange
		}
		names = append(names, events[x].Name)
	}
	return strings.Join(names, " "), api.OK
}

// Parse returns the word of a text, or the place of the first error.
func Parse(events []api.Event, s string) (w []int, at int, e api.Errno) {
	if e := alphabet.Check(events); e != api.OK {
		return nil, 0, e
	}
	if len(s) > api.MaxText {
		return nil, 0, api.ErrLong
	}
	index := make(map[string]int, len(events))
	for i, x := range events {
		index[x.Name] = i
	}
	for start, end := nextPart(s, 0); start < end; start, end = nextPart(s, end) {
		if len(w) == api.MaxWord {
			return nil, start, api.ErrLimit
		}
		x, found := index[s[start:end]]
		if !found {
			return nil, start, api.ErrUnknown
		}
		w = append(w, x)
	}
	return w, 0, api.OK
}

// nextPart returns the bounds of the first part between blanks, from a place on; they are equal if there is none.
func nextPart(s string, from int) (start, end int) {
	start = from
	for start < len(s) && s[start] == ' ' {
		start++
	}
	end = start
	for end < len(s) && s[end] != ' ' {
		end++
	}
	return start, end
}

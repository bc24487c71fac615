package exclusion

import "iter"

// numerals yields all lists of digits, each of which is less than its base, like the numerals of 0, 1, .. that have one digit for each base. The yielded slice is always the same one.
func numerals(bases []int) iter.Seq[[]int] {
	return func(yield func([]int) bool) {
		digits := make([]int, len(bases))
		for yield(digits) {
			i := len(digits) - 1
			for ; i >= 0 && digits[i] == bases[i]-1; i-- {
				digits[i] = 0
			}
			if i < 0 {
				return
			}
			digits[i]++
		}
	}
}

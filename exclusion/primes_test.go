package exclusion_test

import (
	"cmp"
	"fmt"
	"math/rand"
	"reflect"
	"slices"
	"testing"

	"overseer/api"
	"overseer/exclusion"
)

// sorted puts exclusions into the order of primes.
func sorted(l []api.Exclusion) []api.Exclusion {
	slices.SortFunc(l, func(x, y api.Exclusion) int {
		if len(x.Locals) != len(y.Locals) {
			return len(x.Locals) - len(y.Locals)
		}
		for i, a := range x.Locals {
			b := y.Locals[i]
			if a != b {
				return cmp.Or(a.Component-b.Component, a.State-b.State)
			}
		}
		return 0
	})
	return l
}

// agrees reports whether a tuple agrees with a partial tuple.
func agrees(tuple ints, partial []api.Local) bool {
	return !slices.ContainsFunc(partial, func(x api.Local) bool { return tuple[x.Component] != x.State })
}

// partialsOf are all partial tuples.
func partialsOf(sizes ints) [][]api.Local {
	l := [][]api.Local{nil}
	for component, size := range sizes {
		for _, partial := range l {
			for state := range size {
				l = append(l, append(slices.Clone(partial), api.Local{Component: component, State: state}))
			}
		}
	}
	return l
}

// isPart reports whether all of a partial tuple is in another one, with something else.
func isPart(part, partial []api.Local) bool {
	return len(part) < len(partial) && !slices.ContainsFunc(part, func(x api.Local) bool { return !slices.Contains(partial, x) })
}

// primesOf is what Primes must return, by the words of the chapter.
func primesOf(c conditions) []api.Exclusion {
	tuples, forbidden := tuplesOf(c.Sizes), map[string]bool{}
	for _, tuple := range badOf(c) {
		forbidden[fmt.Sprint(tuple)] = true
	}
	var bad [][]api.Local
	for _, partial := range partialsOf(c.Sizes) {
		if !slices.ContainsFunc(tuples, func(tuple ints) bool { return agrees(tuple, partial) && !forbidden[fmt.Sprint(tuple)] }) {
			bad = append(bad, partial)
		}
	}
	var primes []api.Exclusion
	for _, partial := range bad {
		if !slices.ContainsFunc(bad, func(part []api.Local) bool { return isPart(part, partial) }) {
			primes = append(primes, api.Exclusion{Locals: partial})
		}
	}
	return sorted(primes)
}

// P20.5, P20.7: the primes, and that they alone forbid the same tuples.
func TestRandomPrimes(t *testing.T) {
	r := rand.New(rand.NewSource(2))
	counts := map[int]int{}
	for range 1500 {
		c := drawConditions(r, r.Intn(5))
		if len(tuplesOf(c.Sizes)) > 100 {
			continue
		}
		before := fmt.Sprint(c)
		want := primesOf(c)
		l, e := exclusion.Primes(c)
		if fmt.Sprint(l) != fmt.Sprint(want) || e != api.OK || fmt.Sprint(c) != before {
			t.Fatalf("Primes(%v) = %v, %d, not %v", c, l, e, want)
		}
		counts[min(len(l), 4)]++
		if len(l) > 0 && len(l[0].Locals) == 0 {
			counts[-1]++
			continue
		}
		alone := conditions{Sizes: c.Sizes}
		for i, x := range l {
			x.Name = fmt.Sprint("p", i)
			alone.Exclusions = append(alone.Exclusions, x)
		}
		if len(l) > exclusion.MaxConditions {
			continue
		}
		bad, e := exclusion.Bad(alone)
		if all, _ := exclusion.Bad(c); e != api.OK || !slices.EqualFunc(bad, all, slices.Equal[ints]) {
			t.Fatalf("%v forbids %v, and its primes %v", c, all, bad)
		}
	}
	for _, kind := range []int{-1, 0, 1, 2, 3, 4} {
		if counts[kind] < 50 {
			t.Errorf("%v", counts)
		}
	}
}

// P20.5: the chapter's second example, the empty partial tuple, and components with one state.
func TestPrimes(t *testing.T) {
	for i, c := range []struct {
		c    conditions
		want []api.Exclusion
	}{
		{conditions{Sizes: ints{2, 2}, Constraints: []api.Constraint{bounded("a", -1, 0, -1, 1, -1)}}, []api.Exclusion{excluded("", 0, 0, 1, 0)}},
		{conditions{Sizes: ints{2, 2}, Constraints: []api.Constraint{bounded("a", -1, 0, 1, 1, 1)}}, []api.Exclusion{{}}},
		{conditions{Sizes: ints{1}, Exclusions: []api.Exclusion{excluded("a", 0, 0)}}, []api.Exclusion{{}}},
		{conditions{Sizes: ints{1, 3}, Exclusions: []api.Exclusion{excluded("a", 0, 0, 1, 2)}}, []api.Exclusion{excluded("", 1, 2)}},
		{conditions{Sizes: ints{2, 3}, Exclusions: []api.Exclusion{excluded("a", 0, 0, 1, 2), excluded("b", 0, 1, 1, 2)}}, []api.Exclusion{excluded("", 1, 2)}},
		{conditions{Sizes: ints{2, 2}, Exclusions: []api.Exclusion{excluded("a", 0, 0), excluded("b", 0, 1)}}, []api.Exclusion{{}}},
		{conditions{Sizes: ints{2, 2, 2}, Exclusions: []api.Exclusion{excluded("a", 0, 0, 1, 0), excluded("b", 1, 1, 2, 0), excluded("c", 2, 1)}}, []api.Exclusion{excluded("", 1, 1), excluded("", 2, 1), excluded("", 0, 0)}},
		{conditions{Sizes: ints{3, 12, 300}, Exclusions: []api.Exclusion{excluded("a", 0, 1, 1, 11), excluded("b", 0, 1, 2, 11), excluded("c", 1, 1, 2, 111), excluded("d", 1, 11, 2, 11), excluded("e", 2, 255)}}, []api.Exclusion{excluded("", 2, 255), excluded("", 0, 1, 1, 11), excluded("", 0, 1, 2, 11), excluded("", 1, 1, 2, 111), excluded("", 1, 11, 2, 11)}},
		{conditions{Sizes: ints{3, 3}}, nil},
	} {
		l, e := exclusion.Primes(c.c)
		if want := sorted(c.want); !reflect.DeepEqual(l, want) || e != api.OK {
			t.Errorf("%d: Primes = %v, %d, not %v", i, l, e, want)
		}
	}
}

// P20.5: as many primes as there can be, and one more.
func TestManyPrimes(t *testing.T) {
	// A bound that forbids n states of a component, but not all, gives n primes.
	c := conditions{Sizes: ints{300, 2}, Constraints: []api.Constraint{bounded("x", 43, 0, 1)}}
	l, e := exclusion.Primes(c)
	if len(l) != 256 || e != api.OK || !reflect.DeepEqual(l[0], excluded("", 0, 44)) || !reflect.DeepEqual(l[255], excluded("", 0, 299)) {
		t.Errorf("Primes = %d, %d", len(l), e)
	}
	c.Constraints[0].Bound = 42
	if l, e := exclusion.Primes(c); l != nil || e != api.ErrLimit {
		t.Errorf("Primes = %v, %d", l, e)
	}
	c.Constraints[0].Bound = -1
	if l, e := exclusion.Primes(c); !reflect.DeepEqual(l, []api.Exclusion{{}}) || e != api.OK {
		t.Errorf("Primes = %v, %d", l, e)
	}
}

// P20.5: what can be left out alone.
func TestImplied(t *testing.T) {
	r := rand.New(rand.NewSource(3))
	some, none := 0, 0
	for range 2000 {
		c := drawConditions(r, r.Intn(5))
		before := fmt.Sprint(c)
		bad := badOf(c)
		var exclusions, constraints ints
		for i := range c.Exclusions {
			rest := c
			rest.Exclusions = slices.Delete(slices.Clone(c.Exclusions), i, i+1)
			if len(badOf(rest)) == len(bad) {
				exclusions = append(exclusions, i)
			}
		}
		for i := range c.Constraints {
			rest := c
			rest.Constraints = slices.Delete(slices.Clone(c.Constraints), i, i+1)
			if len(badOf(rest)) == len(bad) {
				constraints = append(constraints, i)
			}
		}
		x, y, e := exclusion.Implied(c)
		if !slices.Equal(x, exclusions) || !slices.Equal(y, constraints) || e != api.OK || fmt.Sprint(c) != before {
			t.Fatalf("Implied(%v) = %v, %v, %d, not %v, %v", c, x, y, e, exclusions, constraints)
		}
		some += len(x) + len(y)
		none += len(c.Exclusions) + len(c.Constraints) - len(x) - len(y)
	}
	if some < 1000 || none < 1000 {
		t.Errorf("%d, %d", some, none)
	}
}

// P20.7: what bounds beside all values forbid, and that further conditions forbid further tuples.
func TestFurtherConditions(t *testing.T) {
	r := rand.New(rand.NewSource(4))
	more := 0
	for range 1000 {
		c := drawConditions(r, 1+r.Intn(4))
		bad, _ := exclusion.Bad(c)
		for i := range c.Constraints {
			least, greatest, _ := exclusion.Span(c, i)
			alone := conditions{Sizes: c.Sizes, Constraints: []api.Constraint{c.Constraints[i]}}
			for bound, want := range map[int]int{greatest: 0, least - 1: len(tuplesOf(c.Sizes))} {
				alone.Constraints[0].Bound = bound
				if l, e := exclusion.Bad(alone); len(l) != want || e != api.OK {
					t.Fatalf("Bad(%v) = %v, %d", alone, l, e)
				}
			}
		}
		c.Exclusions = append(slices.Clone(c.Exclusions), excluded("further", 0, r.Intn(c.Sizes[0])))
		further, e := exclusion.Bad(c)
		if e != api.OK || slices.ContainsFunc(bad, func(x ints) bool {
			return !slices.ContainsFunc(further, func(y ints) bool { return slices.Equal(x, y) })
		}) {
			t.Fatalf("%v forbids %v, before %v", c, further, bad)
		}
		if len(further) > len(bad) {
			more++
		}
	}
	if more < 300 {
		t.Errorf("%d", more)
	}
}

// Results share no memory with arguments, nor with each other.
func TestMemory(t *testing.T) {
	c := conditions{Sizes: ints{2, 3}, Exclusions: []api.Exclusion{excluded("x", 0, 1, 1, 2), excluded("y", 0, 0, 1, 1)}}
	before := fmt.Sprint(c)
	primes, _ := exclusion.Primes(c)
	bad, _ := exclusion.Bad(c)
	clear(primes[0].Locals)
	clear(bad[0])
	if fmt.Sprint(primes, bad) != "[{ [{0 0} {0 0}]} { [{0 1} {1 2}]}] [[0 0] [1 2]]" || fmt.Sprint(c) != before {
		t.Errorf("%v, %v, %v", primes, bad, c)
	}
}

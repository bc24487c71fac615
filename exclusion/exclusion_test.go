package exclusion_test

import (
	"fmt"
	"math"
	"math/rand"
	"reflect"
	"slices"
	"testing"

	"overseer/api"
	"overseer/exclusion"
)

type (
	ints       = []int
	conditions = exclusion.Conditions
)

// locals are pairs of a component and a state.
func locals(l ...int) []api.Local {
	var all []api.Local
	for i := 0; i < len(l); i += 2 {
		all = append(all, api.Local{Component: l[i], State: l[i+1]})
	}
	return all
}

// terms are pairs of a component and a factor.
func terms(l ...int) []api.Term {
	var all []api.Term
	for i := 0; i < len(l); i += 2 {
		all = append(all, api.Term{Component: l[i], Factor: l[i+1]})
	}
	return all
}

func excluded(name string, l ...int) api.Exclusion {
	return api.Exclusion{Name: name, Locals: locals(l...)}
}

func bounded(name string, bound int, l ...int) api.Constraint {
	return api.Constraint{Name: name, Terms: terms(l...), Bound: bound}
}

// two is the chapter's first example.
func two() conditions {
	return conditions{Sizes: ints{3, 2}, Exclusions: []api.Exclusion{excluded("x", 0, 2, 1, 1)}, Constraints: []api.Constraint{bounded("y", 4, 0, 2, 1, 1)}}
}

// whole has everything that conditions can have.
func whole() conditions {
	return conditions{
		Sizes:       ints{3, 1, 4},
		Exclusions:  []api.Exclusion{excluded("a", 0, 2), excluded("b", 0, 1, 1, 0, 2, 3), excluded("c", 1, 0, 2, 0)},
		Constraints: []api.Constraint{bounded("a", 3, 0, 2, 2, -1), bounded("d", -1, 1, 5, 2, -1)},
	}
}

// results are what the functions with conditions return.
func results(c conditions, index int, tuples ...ints) []any {
	var tuple ints
	if len(tuples) > 0 {
		tuple = tuples[0]
	}
	kind, i, is, e1 := exclusion.Violated(c, tuple)
	forbidden, e2 := exclusion.Forbidden(c, tuples)
	bad, e3 := exclusion.Bad(c)
	value, e4 := exclusion.Value(c, index, tuple)
	least, greatest, e5 := exclusion.Span(c, index)
	primes, e6 := exclusion.Primes(c)
	exclusions, constraints, e7 := exclusion.Implied(c)
	return []any{kind, i, is, e1, forbidden, e2, bad, e3, value, e4, least, greatest, e5, primes, e6, exclusions, constraints, e7}
}

func zeros(e api.Errno) []any {
	return []any{0, 0, false, e, ints(nil), e, []ints(nil), e, 0, e, 0, 0, e, []api.Exclusion(nil), e, ints(nil), ints(nil), e}
}

// breakage breaks valid conditions in a way that has an error.
type breakage struct {
	e      api.Errno
	damage func(c *conditions)
}

// breakages are in the order of the errors of Check.
func breakages() []breakage {
	return []breakage{
		{api.ErrLimit, func(c *conditions) { c.Sizes = append(c.Sizes, make(ints, 6)...) }},
		{api.ErrRange, func(c *conditions) { c.Sizes = append(c.Sizes, 0) }},
		{api.ErrLimit, func(c *conditions) { c.Exclusions = append(c.Exclusions, make([]api.Exclusion, 30)...) }},
		{api.ErrLimit, func(c *conditions) { c.Constraints = append(c.Constraints, make([]api.Constraint, 31)...) }},
		{api.ErrName, func(c *conditions) { c.Exclusions[0].Name = "" }},
		{api.ErrRange, func(c *conditions) { c.Exclusions[0].Locals[0].State = 3 }},
		{api.ErrDuplicate, func(c *conditions) { c.Exclusions[1].Name = "a" }},
		{api.ErrOrder, func(c *conditions) { c.Exclusions[1].Locals[1] = api.Local{Component: 0, State: 9} }},
		{api.ErrRange, func(c *conditions) { c.Exclusions[1].Locals[2] = api.Local{Component: 3, State: 9} }},
		{api.ErrEmpty, func(c *conditions) { c.Exclusions[2].Locals = nil }},
		{api.ErrName, func(c *conditions) { c.Constraints[0].Name = "1" }},
		{api.ErrRange, func(c *conditions) { c.Constraints[0].Terms[0].Factor = 0 }},
		{api.ErrOrder, func(c *conditions) { c.Constraints[0].Terms[1] = api.Term{} }},
		{api.ErrRange, func(c *conditions) { c.Constraints[0].Bound = 65537 }},
		{api.ErrDuplicate, func(c *conditions) { c.Constraints[1].Name = "a" }},
		{api.ErrEmpty, func(c *conditions) { c.Constraints[1].Terms = nil }},
		{api.ErrRange, func(c *conditions) { c.Constraints[1].Bound = -65537 }},
	}
}

// P20.1, and P1: each error, and of two errors the first one. All functions return it.
func TestErrorsOfCheck(t *testing.T) {
	if e := exclusion.Check(whole()); e != api.OK {
		t.Fatalf("Check: %d", e)
	}
	l := breakages()
	for i, first := range l {
		for k := i; k < len(l); k++ {
			c := whole()
			l[k].damage(&c)
			if k > i {
				first.damage(&c)
			}
			if e := exclusion.Check(c); e != first.e {
				t.Errorf("%d and %d: Check = %d, not %d", i, k, e, first.e)
			}
			if e := exclusion.CheckTuple(c, ints{-1}); e != first.e {
				t.Errorf("%d and %d: CheckTuple = %d, not %d", i, k, e, first.e)
			}
			for _, got := range [][]any{results(c, -1), results(c, 99, ints{-1})} {
				if !reflect.DeepEqual(got, zeros(first.e)) {
					t.Errorf("%d and %d: %v, not %d", i, k, got, first.e)
				}
			}
		}
	}
}

// P20.1: the first and the last numbers that are valid.
func TestCheck(t *testing.T) {
	few := func(n int) []api.Exclusion {
		var l []api.Exclusion
		for i := range n {
			l = append(l, excluded(fmt.Sprint("x", i), 0, 0))
		}
		return l
	}
	some := func(n int) []api.Constraint {
		var l []api.Constraint
		for i := range n {
			l = append(l, bounded(fmt.Sprint("x", i), 0, 0, 1))
		}
		return l
	}
	for i, c := range []breakage{
		{api.OK, func(c *conditions) { *c = conditions{} }},
		{api.ErrRange, func(c *conditions) { c.Sizes = nil }},
		{api.OK, func(c *conditions) { c.Sizes = append(c.Sizes, 1, 2, 3, 4, 4096) }},
		{api.ErrLimit, func(c *conditions) { c.Sizes = append(c.Sizes, 1, 2, 3, 4, 5, 6) }},
		{api.ErrRange, func(c *conditions) { c.Sizes[1] = 0 }},
		{api.ErrRange, func(c *conditions) { c.Sizes[1] = -1 }},
		{api.ErrRange, func(c *conditions) { c.Sizes[1] = 4097 }},
		{api.ErrRange, func(c *conditions) { c.Sizes[1] = math.MinInt }},
		{api.ErrRange, func(c *conditions) { c.Sizes = c.Sizes[:2] }},
		{api.OK, func(c *conditions) { c.Exclusions = few(32) }},
		{api.ErrLimit, func(c *conditions) { c.Exclusions = few(33) }},
		{api.OK, func(c *conditions) { c.Constraints = some(32) }},
		{api.ErrLimit, func(c *conditions) { c.Constraints = some(33) }},
		{api.OK, func(c *conditions) { c.Exclusions = nil }},
		{api.OK, func(c *conditions) { c.Constraints = nil }},
		{api.ErrDuplicate, func(c *conditions) { c.Exclusions[2].Name = "b" }},
		{api.OK, func(c *conditions) { c.Constraints[1].Name = "b" }},
		{api.ErrName, func(c *conditions) { c.Exclusions[2].Name = "a b" }},
		{api.ErrName, func(c *conditions) { c.Constraints[1].Name = "1" }},
		{api.ErrRange, func(c *conditions) { c.Exclusions[0].Locals[0].Component = -1 }},
		{api.ErrRange, func(c *conditions) { c.Exclusions[0].Locals[0].Component = math.MaxInt }},
		{api.ErrRange, func(c *conditions) { c.Exclusions[0].Locals[0].State = -1 }},
		{api.ErrRange, func(c *conditions) { c.Exclusions[1].Locals[2].State = 4 }},
		{api.ErrOrder, func(c *conditions) { c.Exclusions[1].Locals = locals(1, 0, 1, 0) }},
		{api.ErrOrder, func(c *conditions) { c.Exclusions[1].Locals = locals(1, 0, 0, 0) }},
		{api.OK, func(c *conditions) { c.Exclusions[1].Locals = locals(0, 0, 2, 0) }},
		{api.ErrRange, func(c *conditions) { c.Constraints[0].Terms = terms(0, 1, 3, 0) }},
		{api.ErrRange, func(c *conditions) { c.Constraints[0].Terms = terms(-1, 1, -1, 1) }},
		{api.ErrOrder, func(c *conditions) { c.Constraints[0].Terms = terms(2, 1, 2, 1) }},
		{api.ErrOrder, func(c *conditions) { c.Constraints[0].Terms = terms(2, 1, 1, 0) }},
		{api.ErrRange, func(c *conditions) { c.Constraints[0].Terms = terms(2, 0, 1, 1) }},
		{api.OK, func(c *conditions) { c.Constraints[0].Terms = terms(0, 65536, 1, -65536) }},
		{api.ErrRange, func(c *conditions) { c.Constraints[0].Terms = terms(0, 65537) }},
		{api.ErrRange, func(c *conditions) { c.Constraints[0].Terms = terms(0, -65537) }},
		{api.ErrRange, func(c *conditions) { c.Constraints[0].Terms = terms(0, math.MinInt) }},
		{api.OK, func(c *conditions) { c.Constraints[1].Bound = 65536 }},
		{api.OK, func(c *conditions) { c.Constraints[1].Bound = -65536 }},
		{api.ErrRange, func(c *conditions) { c.Constraints[1].Bound = math.MinInt }},
		{api.ErrRange, func(c *conditions) { c.Constraints[1].Bound = math.MaxInt }},
	} {
		x := whole()
		c.damage(&x)
		if e := exclusion.Check(x); e != c.e {
			t.Errorf("%d: Check = %d, not %d", i, e, c.e)
		}
	}
	if exclusion.MaxConditions != 32 || exclusion.MaxTuples != 16384 || exclusion.MaxPrimes != 256 || exclusion.Excluded != 1 || exclusion.Exceeded != 2 {
		t.Error("the constants")
	}
}

// P20.1, and the errors of tuples of all functions with them.
func TestCheckTuple(t *testing.T) {
	c := whole()
	for i, x := range []struct {
		tuple ints
		e     api.Errno
	}{
		{ints{0, 0, 0}, api.OK},
		{ints{2, 0, 3}, api.OK},
		{nil, api.ErrSize},
		{ints{9, 9}, api.ErrSize},
		{ints{0, 0, 0, 0}, api.ErrSize},
		{ints{3, 0, 0}, api.ErrRange},
		{ints{0, 1, 0}, api.ErrRange},
		{ints{0, 0, 4}, api.ErrRange},
		{ints{0, 0, -1}, api.ErrRange},
		{ints{math.MaxInt, 0, 0}, api.ErrRange},
	} {
		if e := exclusion.CheckTuple(c, x.tuple); e != x.e {
			t.Errorf("%d: CheckTuple = %d, not %d", i, e, x.e)
		}
		if x.e == api.OK {
			continue
		}
		if kind, index, is, e := exclusion.Violated(c, x.tuple); kind != 0 || index != 0 || is || e != x.e {
			t.Errorf("%d: Violated = %d, %d, %v, %d", i, kind, index, is, e)
		}
		if l, e := exclusion.Forbidden(c, []ints{{2, 0, 0}, x.tuple, {5, 5, 5}, nil}); l != nil || e != x.e {
			t.Errorf("%d: Forbidden = %v, %d", i, l, e)
		}
		if value, e := exclusion.Value(c, 1, x.tuple); value != 0 || e != x.e {
			t.Errorf("%d: Value = %d, %d", i, value, e)
		}
		for _, index := range []int{-1, 2, math.MaxInt} {
			if value, e := exclusion.Value(c, index, x.tuple); value != 0 || e != api.ErrRange {
				t.Errorf("%d: Value = %d, %d", i, value, e)
			}
		}
	}
	for _, index := range []int{-1, 2, math.MinInt} {
		if value, e := exclusion.Value(c, index, ints{0, 0, 0}); value != 0 || e != api.ErrRange {
			t.Errorf("Value = %d, %d", value, e)
		}
		if least, greatest, e := exclusion.Span(c, index); least != 0 || greatest != 0 || e != api.ErrRange {
			t.Errorf("Span = %d, %d, %d", least, greatest, e)
		}
	}
}

// P20.2 to P20.5: the chapter's first example.
func TestTwo(t *testing.T) {
	c := two()
	if l, e := exclusion.Bad(c); !reflect.DeepEqual(l, []ints{{2, 1}}) || e != api.OK {
		t.Errorf("Bad = %v, %d", l, e)
	}
	if l, e := exclusion.Forbidden(c, []ints{{2, 0}, {2, 1}, {0, 0}, {2, 1}}); !slices.Equal(l, ints{1, 3}) || e != api.OK {
		t.Errorf("Forbidden = %v, %d", l, e)
	}
	if kind, index, is, e := exclusion.Violated(c, ints{2, 1}); kind != exclusion.Excluded || index != 0 || !is || e != api.OK {
		t.Errorf("Violated = %d, %d, %v, %d", kind, index, is, e)
	}
	if value, e := exclusion.Value(c, 0, ints{2, 0}); value != 4 || e != api.OK {
		t.Errorf("Value = %d, %d", value, e)
	}
	if least, greatest, e := exclusion.Span(c, 0); least != 0 || greatest != 5 || e != api.OK {
		t.Errorf("Span = %d, %d, %d", least, greatest, e)
	}
	if exclusions, constraints, e := exclusion.Implied(c); !slices.Equal(exclusions, ints{0}) || !slices.Equal(constraints, ints{0}) || e != api.OK {
		t.Errorf("Implied = %v, %v, %d", exclusions, constraints, e)
	}
	if l, e := exclusion.Primes(c); !reflect.DeepEqual(l, []api.Exclusion{excluded("", 0, 2, 1, 1)}) || e != api.OK {
		t.Errorf("Primes = %v, %d", l, e)
	}
}

// tuplesOf are all tuples, in lexicographic order.
func tuplesOf(sizes ints) []ints {
	l := []ints{{}}
	for _, size := range sizes {
		var longer []ints
		for _, tuple := range l {
			for state := range size {
				longer = append(longer, append(slices.Clone(tuple), state))
			}
		}
		l = longer
	}
	return l
}

// violated is what Violated must return for a tuple, by the words of the chapter.
func violated(c conditions, tuple ints) (kind, index int, is bool) {
	for i, x := range c.Exclusions {
		inAll := true
		for _, y := range x.Locals {
			inAll = inAll && tuple[y.Component] == y.State
		}
		if inAll {
			return 1, i, true
		}
	}
	for i, x := range c.Constraints {
		if value(x, tuple) > x.Bound {
			return 2, i, true
		}
	}
	return 0, 0, false
}

func value(x api.Constraint, tuple ints) int {
	sum := 0
	for _, y := range x.Terms {
		sum += y.Factor * tuple[y.Component]
	}
	return sum
}

// badOf are the tuples that violate a condition.
func badOf(c conditions) []ints {
	var bad []ints
	for _, tuple := range tuplesOf(c.Sizes) {
		if _, _, is := violated(c, tuple); is {
			bad = append(bad, tuple)
		}
	}
	return bad
}

func drawConditions(r *rand.Rand, components int) conditions {
	var c conditions
	for range components {
		c.Sizes = append(c.Sizes, 1+r.Intn(4))
	}
	for i := range r.Intn(6) {
		x := api.Exclusion{Name: fmt.Sprint("x", i)}
		for component, size := range c.Sizes {
			if r.Intn(2) == 0 {
				x.Locals = append(x.Locals, api.Local{Component: component, State: r.Intn(size)})
			}
		}
		if len(x.Locals) > 0 {
			c.Exclusions = append(c.Exclusions, x)
		}
	}
	for i := range r.Intn(4) {
		x := api.Constraint{Name: fmt.Sprint("x", i), Bound: r.Intn(12) - 1}
		for component := range c.Sizes {
			if factor := r.Intn(9) - 3; factor != 0 && r.Intn(3) > 0 {
				x.Terms = append(x.Terms, api.Term{Component: component, Factor: factor})
			}
		}
		if len(x.Terms) > 0 {
			c.Constraints = append(c.Constraints, x)
		}
	}
	return c
}

// P20.2, P20.3, P20.4
func TestRandomTuples(t *testing.T) {
	r := rand.New(rand.NewSource(1))
	kinds := map[int]int{}
	for range 3000 {
		c := drawConditions(r, r.Intn(5))
		before := fmt.Sprint(c)
		tuples := tuplesOf(c.Sizes)
		bad, e := exclusion.Bad(c)
		if want := badOf(c); e != api.OK || !slices.EqualFunc(bad, want, slices.Equal[ints]) {
			t.Fatalf("Bad(%v) = %v, %d, not %v", c, bad, e, want)
		}
		r.Shuffle(len(tuples), func(i, k int) { tuples[i], tuples[k] = tuples[k], tuples[i] })
		var forbidden ints
		for i, tuple := range tuples {
			kind, index, is, e := exclusion.Violated(c, tuple)
			wantKind, wantIndex, wantIs := violated(c, tuple)
			if kind != wantKind || index != wantIndex || is != wantIs || e != api.OK {
				t.Fatalf("Violated(%v, %v) = %d, %d, %v, %d", c, tuple, kind, index, is, e)
			}
			kinds[kind]++
			if is {
				forbidden = append(forbidden, i)
			}
		}
		if l, e := exclusion.Forbidden(c, tuples); e != api.OK || !slices.Equal(l, forbidden) {
			t.Fatalf("Forbidden(%v, %v) = %v, %d, not %v", c, tuples, l, e, forbidden)
		}
		for index, x := range c.Constraints {
			least, greatest := math.MaxInt, math.MinInt
			for _, tuple := range tuples {
				got, e := exclusion.Value(c, index, tuple)
				if want := value(x, tuple); got != want || e != api.OK {
					t.Fatalf("Value(%v, %d, %v) = %d, %d, not %d", c, index, tuple, got, e, want)
				}
				least, greatest = min(least, got), max(greatest, got)
			}
			if l, g, e := exclusion.Span(c, index); l != least || g != greatest || e != api.OK {
				t.Fatalf("Span(%v, %d) = %d, %d, %d, not %d, %d", c, index, l, g, e, least, greatest)
			}
		}
		if fmt.Sprint(c) != before {
			t.Fatalf("%s was changed to %v", before, c)
		}
	}
	if kinds[0] < 1000 || kinds[1] < 1000 || kinds[2] < 1000 {
		t.Errorf("%v", kinds)
	}
	large := conditions{Sizes: ints{4096, 4096, 4096, 4096, 4096, 4096, 4096, 4096}, Constraints: []api.Constraint{bounded("x", 0, 0, 65536, 1, -65536, 2, 65536, 3, 65536, 4, 65536, 5, 65536, 6, 65536, 7, 65536)}}
	if l, g, e := exclusion.Span(large, 0); l != -65536*4095 || g != 7*65536*4095 || e != api.OK {
		t.Errorf("Span = %d, %d, %d", l, g, e)
	}
	if v, e := exclusion.Value(large, 0, slices.Repeat(ints{4095}, 8)); v != 6*65536*4095 || e != api.OK {
		t.Errorf("Value = %d, %d", v, e)
	}
}

// P20.3, P20.5: as many tuples as there can be, and more; the empty tuple.
func TestManyTuples(t *testing.T) {
	for i, sizes := range []ints{{4096, 5}, {4096, 4, 1, 1, 1, 1, 1, 2}, {4096, 4096, 4096, 4096, 4096, 4096, 4096, 4096}, {129, 128}, {3277, 5}} {
		c := conditions{Sizes: sizes}
		if l, e := exclusion.Bad(c); l != nil || e != api.ErrLimit {
			t.Errorf("%d: Bad = %v, %d", i, l, e)
		}
		if l, e := exclusion.Primes(c); l != nil || e != api.ErrLimit {
			t.Errorf("%d: Primes = %v, %d", i, l, e)
		}
		if exclusions, constraints, e := exclusion.Implied(c); exclusions != nil || constraints != nil || e != api.ErrLimit {
			t.Errorf("%d: Implied = %v, %v, %d", i, exclusions, constraints, e)
		}
		if kind, index, is, e := exclusion.Violated(c, make(ints, len(sizes))); kind != 0 || index != 0 || is || e != api.OK {
			t.Errorf("%d: Violated = %d, %d, %v, %d", i, kind, index, is, e)
		}
	}
	for i, sizes := range []ints{{4096, 4, 1, 1, 1, 1, 1, 1}, {1, 1, 4, 1, 1, 1, 4096, 1}, {128, 128}, {4, 4, 4, 4, 4, 4, 4}, {4, 4, 4, 3, 3, 3, 3, 3}} {
		c := conditions{Sizes: sizes, Exclusions: []api.Exclusion{excluded("x", 0, sizes[0]-1), excluded("y", 0, 0, 1, 0)}}
		want := badOf(c)
		if l, e := exclusion.Bad(c); !slices.EqualFunc(l, want, slices.Equal[ints]) || e != api.OK {
			t.Errorf("%d: Bad = %d tuples, %d, not %d", i, len(l), e, len(want))
		}
		primes := []api.Exclusion{excluded("", 0, sizes[0]-1), excluded("", 0, 0, 1, 0)}
		if sizes[1] == 1 {
			primes[1].Locals = locals(0, 0)
		}
		if sizes[0] == 1 {
			primes = []api.Exclusion{{}}
		}
		if l, e := exclusion.Primes(c); fmt.Sprint(l) != fmt.Sprint(sorted(primes)) || e != api.OK {
			t.Errorf("%d: Primes = %v, %d, not %v", i, l, e, primes)
		}
	}
	var none conditions
	if got := results(none, 0); !reflect.DeepEqual(got, []any{0, 0, false, api.OK, ints(nil), api.OK, []ints(nil), api.OK, 0, api.ErrRange, 0, 0, api.ErrRange, []api.Exclusion(nil), api.OK, ints(nil), ints(nil), api.OK}) {
		t.Errorf("%v", got)
	}
	if l, e := exclusion.Forbidden(none, []ints{nil, {}}); len(l) != 0 || e != api.OK {
		t.Errorf("Forbidden = %v, %d", l, e)
	}
}

package ordering_test

import (
	"math"
	"math/big"
	"math/rand"
	"slices"
	"testing"

	"overseer/api"
	"overseer/bdd"
	"overseer/ordering"
)

// drawGroups draws groups of n variables.
func drawGroups(r *rand.Rand, n int) lists {
	var groups lists
	for range r.Intn(2 * n) {
		group := ints(r.Perm(n))[:1+r.Intn(min(n, 1+r.Intn(ordering.MaxGroup)))]
		slices.Sort(group)
		groups = append(groups, group)
	}
	if len(groups) > 0 && r.Intn(3) == 0 {
		groups = append(groups, groups[0])
	}
	return groups
}

// placesOf are the positions of the variables of a group.
func placesOf(group, order ints) ints {
	var l ints
	for _, variable := range group {
		l = append(l, slices.Index(order, variable))
	}
	return l
}

func spanOf(groups lists, order ints) int {
	span := 0
	for _, group := range groups {
		l := placesOf(group, order)
		span += slices.Max(l) - slices.Min(l)
	}
	return span
}

func widthOf(groups lists, order ints) int {
	width := 0
	for k := 1; k < len(order); k++ {
		count := 0
		for _, group := range groups {
			l := placesOf(group, order)
			before := slices.ContainsFunc(l, func(p int) bool { return p < k })
			behind := slices.ContainsFunc(l, func(p int) bool { return p >= k })
			if before && behind {
				count++
			}
		}
		width = max(width, count)
	}
	return width
}

// forced is the order after a round of force, with fractions.
func forced(groups lists, order ints) ints {
	coordinate := func(variable int) *big.Rat {
		sum, count := new(big.Rat), int64(0)
		for _, group := range groups {
			if !slices.Contains(group, variable) {
				continue
			}
			centre := int64(0)
			for _, place := range placesOf(group, order) {
				centre += int64(place)
			}
			sum.Add(sum, big.NewRat(centre, int64(len(group))))
			count++
		}
		if count == 0 {
			return big.NewRat(int64(slices.Index(order, variable)), 1)
		}
		return sum.Quo(sum, big.NewRat(count, 1))
	}
	next := slices.Clone(order)
	slices.SortStableFunc(next, func(x, y int) int { return coordinate(x).Cmp(coordinate(y)) })
	return next
}

// P12.4
func TestGroups(t *testing.T) {
	r := rand.New(rand.NewSource(7))
	longest, loose, twice := 0, 0, 0
	for i := range 600 {
		n := 1 + r.Intn(12)
		if i < 10 {
			n = bdd.MaxVariables
		}
		groups, order := drawGroups(r, n), ints(r.Perm(n))
		if len(groups) > ordering.MaxHyper {
			groups = groups[:ordering.MaxHyper]
		}
		if span, e := ordering.Span(groups, order); span != spanOf(groups, order) || e != api.OK {
			t.Errorf("Span(%v, %v) = %d, %d", groups, order, span, e)
		}
		if width, e := ordering.Width(groups, order); width != widthOf(groups, order) || e != api.OK {
			t.Errorf("Width(%v, %v) = %d, %d", groups, order, width, e)
		}
		best, rounds := order, 0
		for {
			if l, e := ordering.Force(groups, order, rounds); !slices.Equal(l, best) || e != api.OK {
				t.Errorf("Force(%v, %v, %d) = %v, %d, not %v", groups, order, rounds, l, e, best)
			}
			next := forced(groups, best)
			if spanOf(groups, next) >= spanOf(groups, best) {
				break
			}
			best = next
			rounds++
		}
		for _, more := range (ints{rounds + 1, rounds + 2, math.MaxInt}) {
			if l, e := ordering.Force(groups, order, more); !slices.Equal(l, best) || e != api.OK {
				t.Errorf("Force(%v, %v, %d) = %v, %d, not %v", groups, order, more, l, e, best)
			}
		}
		longest = max(longest, rounds)
		if rounds > 0 && !slices.Equal(slices.Sorted(slices.Values(slices.Concat(groups...))), order) {
			loose++
		}
		if rounds > 0 && len(groups) > 1 && slices.Equal(groups[0], groups[len(groups)-1]) {
			twice++
		}
	}
	if longest < 4 || loose < 50 || twice < 20 {
		t.Errorf("at most %d rounds, %d with variables in no group or in several ones, %d with a group that occurs twice", longest, loose, twice)
	}
}

// P12.4: the errors, in their order.
func TestErrorsOfGroups(t *testing.T) {
	many := func(n int) lists {
		var l lists
		for range n {
			l = append(l, ints{0})
		}
		return l
	}
	for i, c := range []struct {
		groups lists
		order  ints
		rounds int
		e      api.Errno
	}{
		{nil, nil, 0, api.OK},
		{nil, ints{0}, 3, api.OK},
		{many(64), ints{1, 0}, 1, api.OK},
		{lists{identity(8)}, identity(9), 1, api.OK},
		{many(65), ints{1, 0}, 0, api.ErrLimit},
		{many(65), ints{1, 1}, 0, api.ErrDuplicate},
		{many(65), nil, 0, api.ErrLimit},
		{append(many(64), ints{}), ints{1, 0}, 0, api.ErrLimit},
		{lists{{0}, {}}, ints{1, 0}, -1, api.ErrEmpty},
		{lists{{5}, {}}, ints{1, 0}, -1, api.ErrRange},
		{lists{{0}, nil, {5}}, ints{1, 0}, -1, api.ErrEmpty},
		{lists{{}}, nil, 0, api.ErrEmpty},
		{lists{{0}}, nil, 0, api.ErrRange},
		{lists{identity(9)}, identity(9), 0, api.ErrLimit},
		{lists{identity(9)}, identity(1), 0, api.ErrLimit},
		{lists{make(ints, 9)}, identity(1), 0, api.ErrLimit},
		{lists{{0}, {0, 0}}, identity(3), 0, api.ErrOrder},
		{lists{{2, 1}, identity(9)}, identity(9), 0, api.ErrOrder},
		{lists{{3}}, identity(3), 0, api.ErrRange},
		{lists{{-1}}, identity(3), 0, api.ErrRange},
		{lists{{1, 0, 3}}, identity(3), 0, api.ErrOrder},
		{lists{{0}}, identity(41), 0, api.ErrRange},
	} {
		if span, e := ordering.Span(c.groups, c.order); e != c.e || e != api.OK && span != 0 {
			t.Errorf("%d: Span = %d, %d, not %d", i, span, e, c.e)
		}
		if width, e := ordering.Width(c.groups, c.order); e != c.e || e != api.OK && width != 0 {
			t.Errorf("%d: Width = %d, %d, not %d", i, width, e, c.e)
		}
		if l, e := ordering.Force(c.groups, c.order, c.rounds); e != c.e || e != api.OK && l != nil {
			t.Errorf("%d: Force = %v, %d, not %d", i, l, e, c.e)
		}
	}
	for _, order := range badOrders() {
		want := errorOf(order, len(order))
		_, e1 := ordering.Span(many(65), order)
		_, e2 := ordering.Width(many(65), order)
		_, e3 := ordering.Force(many(65), order, -1)
		if e1 != want || e2 != want || e3 != want {
			t.Errorf("%v: %d, %d, %d, not %d", order, e1, e2, e3, want)
		}
	}
	for _, rounds := range (ints{-1, math.MinInt}) {
		if l, e := ordering.Force(lists{{0, 1}}, ints{1, 0}, rounds); l != nil || e != api.ErrRange {
			t.Errorf("Force = %v, %d", l, e)
		}
	}
}

// P12.4: the chapter's second example.
func TestExampleOfGroups(t *testing.T) {
	groups, order := lists{{0, 2}, {1, 3}}, ints{0, 1, 2, 3}
	for range 2 {
		span, e := ordering.Span(groups, order)
		width, e2 := ordering.Width(groups, order)
		want := [2]int{4, 2}
		if order[1] == 2 {
			want = [2]int{2, 1}
		}
		if span != want[0] || width != want[1] || e != api.OK || e2 != api.OK {
			t.Errorf("%v: span %d, width %d, errors %d and %d", order, span, width, e, e2)
		}
		var e3 api.Errno
		if order, e3 = ordering.Force(groups, order, 1); !slices.Equal(order, ints{0, 2, 1, 3}) || e3 != api.OK {
			t.Errorf("Force = %v, %d", order, e3)
		}
	}
}

// P12.5
func TestShared(t *testing.T) {
	r := rand.New(rand.NewSource(8))
	counts := map[api.Errno]int{}
	for range 800 {
		var alphabets lists
		for range r.Intn(20) {
			var l ints
			for event := range api.MaxEvents {
				if r.Intn(3) == 0 && (event < 4 || event > 29) {
					l = append(l, event)
				}
			}
			alphabets = append(alphabets, l)
		}
		var want lists
		e := api.OK
		for event := range api.MaxEvents {
			var l ints
			for i, events := range alphabets {
				if slices.Contains(events, event) {
					l = append(l, i)
				}
			}
			if len(l) > 1 {
				want = append(want, l)
			}
			if len(l) > ordering.MaxGroup {
				e = api.ErrLimit
			}
		}
		if e != api.OK {
			want = nil
		}
		groups, got := ordering.Shared(alphabets)
		if got != e || !slices.EqualFunc(groups, want, slices.Equal) {
			t.Errorf("Shared(%v) = %v, %d, not %v, %d", alphabets, groups, got, want, e)
		}
		counts[e]++
	}
	if counts[api.OK] < 300 || counts[api.ErrLimit] < 10 {
		t.Errorf("errors %v", counts)
	}
	if groups, e := ordering.Shared(lists{{0, 1}, {1, 2}, {1}}); !slices.EqualFunc(groups, lists{{0, 1, 2}}, slices.Equal) || e != api.OK {
		t.Errorf("Shared = %v, %d", groups, e)
	}
	nine := slices.Repeat(lists{{3}}, 9)
	for i, c := range []struct {
		alphabets lists
		e         api.Errno
	}{
		{make(lists, 40), api.OK}, {make(lists, 41), api.ErrLimit}, {append(make(lists, 40), ints{32}), api.ErrLimit}, {nine[:8], api.OK}, {nine, api.ErrLimit}, {append(nine, ints{2, 1}), api.ErrOrder},
		{lists{{0}, {32}, {2, 1}}, api.ErrRange}, {lists{{0}, {2, 1}, {32}}, api.ErrOrder}, {lists{{-1}}, api.ErrRange}, {lists{{1, 1}}, api.ErrOrder}, {nil, api.OK},
	} {
		if groups, e := ordering.Shared(c.alphabets); e != c.e || e != api.OK && groups != nil {
			t.Errorf("%d: Shared = %v, %d, not %d", i, groups, e, c.e)
		}
	}
}

// P12.6
func TestReversedOrders(t *testing.T) {
	r := rand.New(rand.NewSource(9))
	for range 300 {
		n := 1 + r.Intn(10)
		groups, order := drawGroups(r, n), ints(r.Perm(n))
		back := slices.Clone(order)
		slices.Reverse(back)
		span, _ := ordering.Span(groups, order)
		width, _ := ordering.Width(groups, order)
		span2, _ := ordering.Span(groups, back)
		width2, _ := ordering.Width(groups, back)
		if span != span2 || width != width2 {
			t.Errorf("%v, %v: span %d and %d, width %d and %d", groups, order, span, span2, width, width2)
		}
	}
}

// Arguments are kept as they are, and results share no memory with them or with each other.
func TestArgumentsAreKept(t *testing.T) {
	order, groups, f := ints{2, 0, 3, 1}, lists{{0, 1}, {2, 3}}, pairs(2, 4)
	var results lists
	take := func(l ints, e api.Errno) {
		if e != api.OK {
			t.Errorf("error %d", e)
		}
		results = append(results, l)
	}
	sorted := func(l ints, _ int, e api.Errno) { take(l, e) }
	take(ordering.Inverse(order))
	take(ordering.Move(order, 0, 3))
	take(ordering.Move(order, 0, 1))
	take(ordering.Force(groups, order, 0))
	take(ordering.Force(groups, order, 9))
	sorted(ordering.Sift(f, order))
	sorted(ordering.Improve(f, order))
	sorted(ordering.Least(f))
	shared, e := ordering.Shared(groups)
	more, e2 := ordering.Shared(lists{{0, 1, 4}, {0, 1, 4}, {0, 4}})
	if e != api.OK || e2 != api.OK || len(shared) != 0 || len(more) != 3 {
		t.Errorf("Shared = %v, %v", shared, more)
	}
	results = append(results, more...)
	before := make(lists, len(results))
	for i, l := range results {
		before[i] = slices.Clone(l)
		_ = append(l, 77)
	}
	for i, l := range results {
		if !slices.Equal(l, before[i]) {
			t.Errorf("the result %d changed from %v to %v", i, before[i], l)
		}
		for j := range l {
			l[j] = -9
		}
	}
	g, _ := ordering.Permute(f, order)
	for i := range g.Nodes {
		g.Nodes[i] = bdd.Node{}
	}
	if !slices.Equal(order, ints{2, 0, 3, 1}) || !slices.EqualFunc(groups, lists{{0, 1}, {2, 3}}, slices.Equal) || !bdd.Equal(f, pairs(2, 4)) {
		t.Errorf("changed: %v, %v, %v", order, groups, f)
	}
}

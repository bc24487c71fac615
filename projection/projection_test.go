package projection_test

import (
	"math"
	"math/rand"
	"slices"
	"testing"

	"overseer/api"
	"overseer/automaton"
	"overseer/minimal"
	"overseer/nondeterministic"
	"overseer/product"
	"overseer/projection"
	"overseer/reach"
	"overseer/word"
)

type (
	edges = []api.Edge
	ints  = []int
)

// example is the automaton of the chapter's first example.
func example() api.Automaton {
	return api.Automaton{Alphabet: ints{0, 1}, States: 3, Marked: ints{2}, Edges: edges{{From: 0, Event: 0, To: 1}, {From: 0, Event: 1, To: 0}, {From: 1, Event: 1, To: 2}, {From: 2, Event: 0, To: 0}}}
}

// some draws the sequence of numbers below n, each with the chance of one in few.
func some(r *rand.Rand, n, few int) []int {
	var set []int
	for x := range n {
		if r.Intn(few) == 0 {
			set = append(set, x)
		}
	}
	return set
}

// numbers returns 0 to n - 1.
func numbers(n int) []int {
	set := make([]int, n)
	for i := range set {
		set[i] = i
	}
	return set
}

// draw draws an automaton with some of the first events.
func draw(r *rand.Rand, states, events int) api.Automaton {
	a := api.Automaton{Alphabet: some(r, events, 1+r.Intn(2)), States: 1 + r.Intn(states)}
	a.Marked = some(r, a.States, 1+r.Intn(4))
	dense := 1 + r.Intn(5)
	for s := range a.States {
		for _, x := range a.Alphabet {
			if r.Intn(6) < dense {
				a.Edges = append(a.Edges, api.Edge{From: s, Event: x, To: r.Intn(a.States)})
			}
		}
	}
	return a
}

// drawn returns the empty automaton, special ones, and many small ones that are drawn in a fixed way.
func drawn(r *rand.Rand) []api.Automaton {
	l := []api.Automaton{{}, {Alphabet: ints{0, 31}}, {States: 1}, {Alphabet: ints{4}, States: 2, Marked: ints{0, 1}}, example(), register(3, false), register(2, true)}
	for range 400 {
		l = append(l, draw(r, 7, 5))
	}
	return l
}

// register returns an automaton that remembers which of the last events were 1: only the event 2, which is to be erased, says for which of them. Its projection onto 0, 1 and 3 has 2^n estimates, and one more with a state before the first one.
func register(n int, before bool) api.Automaton {
	a := api.Automaton{Alphabet: ints{0, 1, 2}, States: n + 2}
	first := 0
	if before {
		a.Alphabet, a.States, first = append(a.Alphabet, 3), a.States+1, 1
		a.Edges = append(a.Edges, api.Edge{From: 0, Event: 3, To: 1})
	}
	a.Marked = ints{a.States - 1}
	a.Edges = append(a.Edges, api.Edge{From: first, Event: 0, To: first}, api.Edge{From: first, Event: 1, To: first}, api.Edge{From: first, Event: 2, To: first + 1}, api.Edge{From: first + 1, Event: 1, To: first + 2})
	for s := first + 2; s < a.States-1; s++ {
		a.Edges = append(a.Edges, api.Edge{From: s, Event: 0, To: s + 1}, api.Edge{From: s, Event: 1, To: s + 1})
	}
	return a
}

// spread adds to a set the states to which edges by some events lead, until there are none, and sorts it.
func spread(a api.Automaton, from []int, counts func(event int) bool) []int {
	set := slices.Clone(from)
	for changed := true; changed; {
		changed = false
		for _, x := range a.Edges {
			if counts(x.Event) && slices.Contains(set, x.From) && !slices.Contains(set, x.To) {
				set, changed = append(set, x.To), true
			}
		}
	}
	slices.Sort(set)
	return set
}

// next is the estimate after an event, by its definition.
func next(a api.Automaton, onto, estimate []int, event int) []int {
	var targets []int
	for _, x := range a.Edges {
		if x.Event == event && slices.Contains(estimate, x.From) && !slices.Contains(targets, x.To) {
			targets = append(targets, x.To)
		}
	}
	return spread(a, targets, func(x int) bool { return !slices.Contains(onto, x) })
}

// estimated is the estimate after an observation, by its definition.
func estimated(a api.Automaton, onto, observation []int) []int {
	var set []int
	if a.States > 0 {
		set = spread(a, ints{0}, func(x int) bool { return !slices.Contains(onto, x) })
	}
	for _, x := range observation {
		set = next(a, onto, set, x)
	}
	return set
}

// projected is the projected automaton with its estimates, by its definition.
func projected(a api.Automaton, onto []int) (api.Automaton, [][]int) {
	p := api.Automaton{Alphabet: slices.DeleteFunc(slices.Clone(a.Alphabet), func(x int) bool { return !slices.Contains(onto, x) })}
	var l [][]int
	if a.States > 0 {
		l = append(l, estimated(a, onto, nil))
	}
	for n := 0; n < len(l); n++ {
		if slices.ContainsFunc(a.Marked, func(s int) bool { return slices.Contains(l[n], s) }) {
			p.Marked = append(p.Marked, n)
		}
		for _, x := range p.Alphabet {
			set := next(a, onto, l[n], x)
			if len(set) == 0 {
				continue
			}
			is := func(y []int) bool { return slices.Equal(set, y) }
			if !slices.ContainsFunc(l, is) {
				l = append(l, set)
			}
			p.Edges = append(p.Edges, api.Edge{From: n, Event: x, To: slices.IndexFunc(l, is)})
		}
	}
	p.States = len(l)
	return p, l
}

// P7.1
func TestProject(t *testing.T) {
	r := rand.New(rand.NewSource(1))
	large := 0
	for _, a := range drawn(r) {
		for _, onto := range [][]int{nil, {0, 1, 3}, a.Alphabet, numbers(api.MaxEvents), some(r, 6, 2), some(r, 6, 2)} {
			want, sets := projected(a, onto)
			p, l, e := projection.Project(a, onto)
			if e != api.OK || !automaton.Equal(p, want) || !slices.EqualFunc(l, sets, slices.Equal[ints]) {
				t.Errorf("Project(%v, %v) = %v, %v, %d, not %v, %v", a, onto, p, l, e, want, sets)
			}
			if p.States > 3 && len(onto) < len(a.Alphabet) {
				large++
			}
		}
	}
	if large < 50 {
		t.Errorf("only %d projections are large", large)
	}
}

// P7.1: the same as erasing the events, and making the rest deterministic.
func TestProjectErases(t *testing.T) {
	r := rand.New(rand.NewSource(2))
	for _, a := range drawn(r) {
		onto := some(r, 6, 2)
		n, _ := nondeterministic.From(a)
		n, _ = nondeterministic.Erase(n, slices.DeleteFunc(numbers(api.MaxEvents), func(x int) bool { return slices.Contains(onto, x) }))
		want, sets, _ := nondeterministic.Determinize(n)
		if p, l, e := projection.Project(a, onto); e != api.OK || !automaton.Equal(p, want) || !slices.EqualFunc(l, sets, slices.Equal[ints]) {
			t.Errorf("Project(%v, %v) = %v, %v, %d, not %v, %v", a, onto, p, l, e, want, sets)
		}
	}
}

// P7.1: the chapter's example, and the empty automaton.
func TestExamplesOfProject(t *testing.T) {
	for i, c := range []struct {
		a    api.Automaton
		onto []int
		p    api.Automaton
		l    [][]int
	}{
		{example(), ints{1}, api.Automaton{Alphabet: ints{1}, States: 2, Marked: ints{1}, Edges: edges{{From: 0, Event: 1, To: 1}, {From: 1, Event: 1, To: 1}}}, [][]int{{0, 1}, {0, 1, 2}}},
		{example(), ints{1, 2, 31}, api.Automaton{Alphabet: ints{1}, States: 2, Marked: ints{1}, Edges: edges{{From: 0, Event: 1, To: 1}, {From: 1, Event: 1, To: 1}}}, [][]int{{0, 1}, {0, 1, 2}}},
		{example(), ints{0}, api.Automaton{Alphabet: ints{0}, States: 2, Marked: ints{1}, Edges: edges{{From: 0, Event: 0, To: 1}, {From: 1, Event: 0, To: 0}}}, [][]int{{0}, {1, 2}}},
		{example(), nil, api.Automaton{States: 1, Marked: ints{0}}, [][]int{{0, 1, 2}}},
		{api.Automaton{Alphabet: ints{1, 4}}, ints{4}, api.Automaton{Alphabet: ints{4}}, nil},
		{api.Automaton{}, nil, api.Automaton{}, nil},
	} {
		if p, l, e := projection.Project(c.a, c.onto); e != api.OK || !automaton.Equal(p, c.p) || !slices.EqualFunc(l, c.l, slices.Equal[ints]) {
			t.Errorf("%d: Project = %v, %v, %d", i, p, l, e)
		}
	}
}

// P7.1: as many estimates as possible, and one more.
func TestLimitOfEstimates(t *testing.T) {
	for i, c := range []struct {
		a      api.Automaton
		states int
		e      api.Errno
	}{
		{register(12, false), api.MaxStates, api.OK},
		{register(12, true), 0, api.ErrLimit},
		{register(11, true), 2049, api.OK},
		{register(20, false), 0, api.ErrLimit},
	} {
		p, l, e := projection.Project(c.a, ints{0, 1, 3})
		if e != c.e || p.States != c.states || len(l) != c.states || e != api.OK && !automaton.Equal(p, api.Automaton{}) {
			t.Errorf("%d: Project: %d states, %d estimates, %d", i, p.States, len(l), e)
		}
		if e == api.OK && !automaton.IsCanonical(p) {
			t.Errorf("%d: Project is not canonical", i)
		}
	}
}

// P7.1: the languages are those of the observations.
func TestLanguagesOfProjections(t *testing.T) {
	r := rand.New(rand.NewSource(3))
	long := 0
	for range 200 {
		a, onto := draw(r, 5, 3), some(r, 3, 2)
		p, _, _ := projection.Project(a, onto)
		l, e := automaton.Words(a, 5, false)
		if e != api.OK {
			t.Fatalf("Words: %d", e)
		}
		for _, w := range l {
			accepted, _ := automaton.Accepts(a, w)
			observation := word.Project(w, onto)
			is, _ := automaton.Generates(p, observation)
			isMarked, _ := automaton.Accepts(p, observation)
			if !is || accepted && !isMarked {
				t.Errorf("the projection %v of %v onto %v: %v is generated %t, marked %t", p, a, onto, observation, is, isMarked)
			}
		}
		l, _ = automaton.Words(p, 4, false)
		for _, v := range l {
			isMarked, _ := automaton.Accepts(p, v)
			_, found, _ := projection.Lift(a, onto, v, false)
			_, foundMarked, _ := projection.Lift(a, onto, v, true)
			if !found || foundMarked != isMarked {
				t.Errorf("the projection %v of %v onto %v: %v is found %t, marked %t", p, a, onto, v, found, foundMarked)
			}
			if len(v) > 2 {
				long++
			}
		}
	}
	if long < 100 {
		t.Errorf("only %d words are long", long)
	}
}

// P7.2
func TestReach(t *testing.T) {
	r := rand.New(rand.NewSource(4))
	more := 0
	for _, a := range drawn(r) {
		for range 4 {
			from, events := some(r, a.States, 1+r.Intn(4)), some(r, 6, 1+r.Intn(3))
			want := spread(a, from, func(x int) bool { return slices.Contains(events, x) })
			if set, e := projection.Reach(a, from, events); e != api.OK || !slices.Equal(set, want) {
				t.Errorf("Reach(%v, %v, %v) = %v, %d, not %v", a, from, events, set, e, want)
			}
			if len(from) > 0 && len(want) > len(from)+1 {
				more++
			}
		}
	}
	if more < 50 {
		t.Errorf("only %d sets have grown", more)
	}
	for i, c := range []struct{ from, events, want []int }{
		{ints{0}, ints{0}, ints{0, 1}},
		{ints{2}, ints{0}, ints{0, 1, 2}},
		{ints{1, 2}, nil, ints{1, 2}},
		{nil, ints{0, 1}, nil},
		{ints{1}, ints{5, 31}, ints{1}},
		{ints{0}, ints{0, 1, 7}, ints{0, 1, 2}},
	} {
		if set, e := projection.Reach(example(), c.from, c.events); e != api.OK || !slices.Equal(set, c.want) {
			t.Errorf("%d: Reach = %v, %d", i, set, e)
		}
	}
}

// drawWord draws a word of some events.
func drawWord(r *rand.Rand, events []int, most int) []int {
	var w []int
	for range r.Intn(most + 1) {
		if len(events) > 0 {
			w = append(w, events[r.Intn(len(events))])
		}
	}
	return w
}

// P7.3, and what P7.6 says of it.
func TestEstimateAndNext(t *testing.T) {
	r := rand.New(rand.NewSource(5))
	full, empty, open := 0, 0, 0
	for _, a := range drawn(r) {
		for range 4 {
			onto := some(r, 6, 1+r.Intn(2))
			p, _ := projected(a, onto)
			observation := drawWord(r, p.Alphabet, 4)
			want := estimated(a, onto, observation)
			set, e := projection.Estimate(a, onto, observation)
			if e != api.OK || !slices.Equal(set, want) {
				t.Errorf("Estimate(%v, %v, %v) = %v, %d, not %v", a, onto, observation, set, e, want)
			}
			if len(want) > 1 && len(observation) > 1 {
				full++
			} else if len(want) == 0 {
				empty++
			}
			for _, x := range p.Alphabet {
				after, _ := projection.Estimate(a, onto, append(slices.Clone(observation), x))
				if set, e := projection.Next(a, onto, want, x); e != api.OK || !slices.Equal(set, after) {
					t.Errorf("Next(%v, %v, %v, %d) = %v, %d, not %v", a, onto, want, x, set, e, after)
				}
				states := some(r, a.States, 2)
				targets := next(a, onto, states, x)
				if set, e := projection.Next(a, onto, states, x); e != api.OK || !slices.Equal(set, targets) {
					t.Errorf("Next(%v, %v, %v, %d) = %v, %d, not %v", a, onto, states, x, set, e, targets)
				}
				closed := spread(a, states, func(x int) bool { return !slices.Contains(onto, x) })
				if !slices.Equal(targets, next(a, onto, closed, x)) {
					open++
				}
			}
		}
	}
	if full < 50 || empty < 50 || open < 20 {
		t.Errorf("only %d estimates are large, %d empty, %d lists of states not closed", full, empty, open)
	}
}

// P7.3: the definition of an estimate by words.
func TestEstimateIsWhereWordsLead(t *testing.T) {
	r := rand.New(rand.NewSource(6))
	for range 300 {
		a, onto := draw(r, 3, 3), some(r, 3, 2)
		l, _ := automaton.Words(a, 5, false) // enough for 3 states and observations of 1 event
		for _, observation := range append([][]int{nil}, [][]int{{0}, {1}, {2}}...) {
			if word.Check(observation, onto) != api.OK || word.Check(observation, a.Alphabet) != api.OK {
				continue
			}
			var want []int
			for _, w := range l {
				if slices.Equal(word.Project(w, onto), observation) {
					s, _, _ := automaton.Run(a, 0, w)
					want = append(want, s)
				}
			}
			slices.Sort(want)
			want = slices.Compact(want)
			if set, e := projection.Estimate(a, onto, observation); e != api.OK || !slices.Equal(set, want) {
				t.Errorf("Estimate(%v, %v, %v) = %v, %d, not %v", a, onto, observation, set, e, want)
			}
		}
	}
}

// P7.3: the chapter's example, and events that are not known, also behind those that lead to nothing.
func TestExamplesOfEstimate(t *testing.T) {
	a := example()
	for i, c := range []struct {
		a                 api.Automaton
		onto, observation []int
		want              []int
		e                 api.Errno
	}{
		{a, ints{1}, nil, ints{0, 1}, api.OK},
		{a, ints{1}, ints{1}, ints{0, 1, 2}, api.OK},
		{a, ints{1}, ints{1, 1}, ints{0, 1, 2}, api.OK},
		{a, ints{1}, slices.Repeat(ints{1}, 20000), ints{0, 1, 2}, api.OK},
		{a, ints{0, 1}, ints{0, 1}, ints{2}, api.OK},
		{a, ints{0, 1}, ints{0, 0, 1}, nil, api.OK},
		{a, nil, nil, ints{0, 1, 2}, api.OK},
		{a, ints{1}, ints{0}, nil, api.ErrUnknown},
		{a, ints{1, 2}, ints{2}, nil, api.ErrUnknown},
		{a, ints{1, 2}, ints{1, 2}, nil, api.ErrUnknown},
		{a, ints{1}, ints{1, -1}, nil, api.ErrUnknown},
		{a, ints{1}, ints{math.MaxInt}, nil, api.ErrUnknown},
		{a, ints{0, 1}, ints{0, 0, 7}, nil, api.ErrUnknown},
		{api.Automaton{Alphabet: ints{1}}, ints{1}, nil, nil, api.OK},
		{api.Automaton{Alphabet: ints{1}}, ints{1}, ints{1}, nil, api.OK},
		{api.Automaton{Alphabet: ints{1}}, ints{1}, ints{0}, nil, api.ErrUnknown},
	} {
		if set, e := projection.Estimate(c.a, c.onto, c.observation); e != c.e || !slices.Equal(set, c.want) {
			t.Errorf("%d: Estimate = %v, %d", i, set, e)
		}
	}
	for i, c := range []struct {
		onto, estimate []int
		event          int
		want           []int
		e              api.Errno
	}{
		{ints{1}, ints{0, 1}, 1, ints{0, 1, 2}, api.OK},
		{ints{1}, ints{0}, 1, ints{0, 1}, api.OK},
		{ints{1}, ints{2}, 1, nil, api.OK},
		{ints{1}, nil, 1, nil, api.OK},
		{ints{1}, ints{0, 1}, 0, nil, api.ErrUnknown},
		{ints{1, 2}, ints{0, 1}, 2, nil, api.ErrUnknown},
		{ints{1, 2}, nil, 2, nil, api.ErrUnknown},
		{ints{1}, ints{0, 1}, -1, nil, api.ErrUnknown},
		{ints{1}, ints{0, 1}, 32, nil, api.ErrUnknown},
	} {
		if set, e := projection.Next(a, c.onto, c.estimate, c.event); e != c.e || !slices.Equal(set, c.want) {
			t.Errorf("%d: Next = %v, %d", i, set, e)
		}
	}
}

// P7.4, and what P7.6 says of it.
func TestInverse(t *testing.T) {
	r := rand.New(rand.NewSource(7))
	for _, a := range drawn(r) {
		for _, set := range [][]int{nil, a.Alphabet, some(r, 8, 2), numbers(api.MaxEvents)} {
			want := api.Automaton{Alphabet: slices.Compact(slices.Sorted(slices.Values(append(slices.Clone(a.Alphabet), set...)))), States: a.States, Marked: a.Marked}
			for s := range a.States {
				for _, x := range want.Alphabet {
					to, possible, e := automaton.Step(a, s, x)
					if e == api.ErrUnknown {
						to, possible = s, true
					}
					if possible {
						want.Edges = append(want.Edges, api.Edge{From: s, Event: x, To: to})
					}
				}
			}
			want, _ = automaton.Canonical(want)
			b, e := projection.Inverse(a, set)
			if e != api.OK || !automaton.Equal(b, want) {
				t.Errorf("Inverse(%v, %v) = %v, %d, not %v", a, set, b, e, want)
			}
			c, _ := automaton.Canonical(a)
			if p, _, e := projection.Project(b, a.Alphabet); e != api.OK || !automaton.Equal(p, c) {
				t.Errorf("the projection of the inverse projection %v of %v is %v, %d", b, a, p, e)
			}
		}
	}
}

// P7.4: the chapter's example, and the empty automaton.
func TestExamplesOfInverse(t *testing.T) {
	for i, c := range []struct {
		a    api.Automaton
		set  []int
		want api.Automaton
	}{
		{api.Automaton{Alphabet: ints{1}, States: 1}, ints{0, 1}, api.Automaton{Alphabet: ints{0, 1}, States: 1, Edges: edges{{From: 0, Event: 0, To: 0}}}},
		{api.Automaton{Alphabet: ints{1}}, ints{0, 31}, api.Automaton{Alphabet: ints{0, 1, 31}}},
		{api.Automaton{States: 2, Marked: ints{0, 1}}, ints{3}, api.Automaton{Alphabet: ints{3}, States: 1, Marked: ints{0}, Edges: edges{{From: 0, Event: 3, To: 0}}}},
	} {
		if b, e := projection.Inverse(c.a, c.set); e != api.OK || !automaton.Equal(b, c.want) {
			t.Errorf("%d: Inverse = %v, %d", i, b, e)
		}
	}
}

// lifted finds the least word with an observation in the product with the automaton that has only words with this observation.
func lifted(a api.Automaton, onto, observation []int, marked bool) ([]int, bool) {
	n := len(observation)
	line := api.Automaton{Alphabet: a.Alphabet, States: n + 1, Marked: numbers(n + 1)}
	for s := range n + 1 {
		for _, x := range a.Alphabet {
			if !slices.Contains(onto, x) {
				line.Edges = append(line.Edges, api.Edge{From: s, Event: x, To: s})
			} else if s < n && observation[s] == x {
				line.Edges = append(line.Edges, api.Edge{From: s, Event: x, To: s + 1})
			}
		}
	}
	p, tuples, _ := product.Synchronous([]api.Automaton{a, line})
	if p.States == 0 {
		return nil, false
	}
	var targets []int
	for s, tuple := range tuples {
		if tuple[1] == n && (!marked || slices.Contains(a.Marked, tuple[0])) {
			targets = append(targets, s)
		}
	}
	w, found, _ := reach.Path(p, 0, targets, numbers(p.States))
	return w, found
}

// P7.5, and what P7.6 says of it.
func TestLift(t *testing.T) {
	r := rand.New(rand.NewSource(8))
	longer, none := 0, 0
	for _, a := range drawn(r) {
		for range 4 {
			onto := some(r, 6, 1+r.Intn(3))
			observation := drawWord(r, word.Project(a.Alphabet, onto), 4)
			for _, marked := range []bool{false, true} {
				want, is := lifted(a, onto, observation, marked)
				w, found, e := projection.Lift(a, onto, observation, marked)
				if e != api.OK || found != is || !slices.Equal(w, want) {
					t.Errorf("Lift(%v, %v, %v, %t) = %v, %t, %d, not %v, %t", a, onto, observation, marked, w, found, e, want, is)
				}
				if found && !slices.Equal(word.Project(w, onto), observation) {
					t.Errorf("Lift(%v, %v, %v, %t) = %v has another observation", a, onto, observation, marked, w)
				}
				if len(w) > len(observation)+1 && len(observation) > 1 {
					longer++
				} else if !found {
					none++
				}
			}
		}
	}
	if longer < 30 || none < 30 {
		t.Errorf("only %d words are longer than their observation, %d observations have none", longer, none)
	}
}

// P7.5: the first of all words in their order.
func TestLiftIsTheFirstWord(t *testing.T) {
	r := rand.New(rand.NewSource(9))
	for range 300 {
		a, onto := draw(r, 3, 2), some(r, 2, 2)
		observation := drawWord(r, word.Project(a.Alphabet, onto), 2)
		for _, marked := range []bool{false, true} {
			l, _ := automaton.Words(a, 8, marked) // enough for 3 states and observations of 2 events
			i := slices.IndexFunc(l, func(w []int) bool { return slices.Equal(word.Project(w, onto), observation) })
			w, found, e := projection.Lift(a, onto, observation, marked)
			if e != api.OK || found != (i >= 0) || found && !slices.Equal(w, l[i]) || !found && len(w) > 0 {
				t.Errorf("Lift(%v, %v, %v, %t) = %v, %t, %d", a, onto, observation, marked, w, found, e)
			}
		}
	}
}

// P7.5: the chapter's examples, the order of words of the same length, and events that are not known.
func TestExamplesOfLift(t *testing.T) {
	a := example()
	// By 2 or 0, which are erased, to 1 or 2, from which 1 leads to 3 and 4.
	fork := api.Automaton{Alphabet: ints{0, 1, 2}, States: 5, Marked: ints{3, 4}, Edges: edges{{From: 0, Event: 0, To: 2}, {From: 0, Event: 2, To: 1}, {From: 1, Event: 1, To: 3}, {From: 2, Event: 1, To: 4}}}
	// The least word to the end of the observation is not the beginning of the least one to a marked state.
	late := api.Automaton{Alphabet: ints{0, 1, 2}, States: 4, Marked: ints{3}, Edges: edges{{From: 0, Event: 0, To: 1}, {From: 0, Event: 1, To: 2}, {From: 1, Event: 1, To: 3}}}
	for i, c := range []struct {
		a                 api.Automaton
		onto, observation []int
		marked            bool
		word              []int
		found             bool
		e                 api.Errno
	}{
		{a, ints{1}, ints{1}, true, ints{0, 1}, true, api.OK},
		{a, ints{1}, ints{1}, false, ints{1}, true, api.OK},
		{a, ints{1}, nil, true, nil, false, api.OK},
		{a, ints{1}, nil, false, nil, true, api.OK},
		{a, ints{1}, ints{1, 1}, true, ints{1, 0, 1}, true, api.OK},
		{a, ints{0}, ints{0, 0, 0}, true, ints{0, 1, 0, 0, 1}, true, api.OK},
		{a, nil, nil, true, ints{0, 1}, true, api.OK},
		{a, ints{0, 1}, ints{0, 0}, false, nil, false, api.OK},
		{fork, ints{1}, ints{1}, false, ints{0, 1}, true, api.OK},
		{fork, ints{1}, ints{1}, true, ints{0, 1}, true, api.OK},
		{late, ints{1, 2}, ints{1}, false, ints{1}, true, api.OK},
		{late, ints{1, 2}, ints{1}, true, ints{0, 1}, true, api.OK},
		{late, ints{1, 2}, ints{2}, false, nil, false, api.OK},
		{a, ints{1}, ints{0}, false, nil, false, api.ErrUnknown},
		{a, ints{1, 5}, ints{5}, false, nil, false, api.ErrUnknown},
		{a, ints{0, 1}, ints{0, 0, 5}, false, nil, false, api.ErrUnknown},
		{a, ints{1}, ints{1, -1}, true, nil, false, api.ErrUnknown},
		{a, ints{1}, ints{math.MinInt}, true, nil, false, api.ErrUnknown},
		{api.Automaton{Alphabet: ints{1}}, ints{1}, nil, false, nil, false, api.OK},
		{api.Automaton{Alphabet: ints{1}}, ints{1}, ints{1}, false, nil, false, api.OK},
		{api.Automaton{Alphabet: ints{1}}, ints{1}, ints{0}, false, nil, false, api.ErrUnknown},
	} {
		if w, found, e := projection.Lift(c.a, c.onto, c.observation, c.marked); e != c.e || found != c.found || !slices.Equal(w, c.word) {
			t.Errorf("%d: Lift = %v, %t, %d", i, w, found, e)
		}
	}
}

// P7.5
func TestAlike(t *testing.T) {
	for i, c := range []struct {
		onto, v, w []int
		alike      bool
	}{
		{nil, nil, nil, true},
		{nil, ints{1, 2}, ints{3}, true},
		{ints{1}, ints{1}, nil, false},
		{ints{1}, ints{0, 1, 0}, ints{1}, true},
		{ints{1}, ints{1, 1}, ints{1}, false},
		{ints{1, 2}, ints{1, 2}, ints{2, 1}, false},
		{ints{1, 2}, ints{0, 1, 3, 2}, ints{1, 2, 5}, true},
		{ints{1, 2}, ints{1, 2}, ints{1, 3}, false},
		{ints{2, 1}, ints{1, 2}, ints{2, 1}, false},
		{ints{2, 1}, ints{1, 0, 2}, ints{1, 2}, true},
		{ints{9, 5, 1}, ints{1}, nil, false},
		{ints{9, 5, 1}, ints{9}, nil, false},
		{ints{9, 5, 1}, ints{5}, nil, false},
		{ints{9, 5, 1}, ints{7}, nil, true},
		{ints{3, 3}, ints{3}, ints{3, 3}, false},
		{ints{-1, math.MaxInt}, ints{-1, 0}, ints{-1}, true},
		{ints{-1, math.MaxInt}, ints{-1}, nil, false},
		{ints{-1, math.MaxInt}, nil, ints{math.MaxInt}, false},
		{numbers(100000), slices.Repeat(ints{7, -1}, 50000), slices.Repeat(ints{7}, 50000), true},
	} {
		if alike := projection.Alike(c.onto, c.v, c.w); alike != c.alike {
			t.Errorf("%d: Alike = %t", i, alike)
		}
		if alike := projection.Alike(c.onto, c.w, c.v); alike != c.alike {
			t.Errorf("%d: Alike of exchanged words = %t", i, alike)
		}
	}
	r := rand.New(rand.NewSource(10))
	for range 2000 {
		onto, v, w := some(r, 4, 2), drawWord(r, numbers(4), 4), drawWord(r, numbers(4), 4)
		if alike := projection.Alike(onto, v, w); alike != slices.Equal(word.Project(v, onto), word.Project(w, onto)) {
			t.Errorf("Alike(%v, %v, %v) = %t", onto, v, w, alike)
		}
	}
}

// P7.6: projections onto a part of the set, and onto all events.
func TestProjectionsAgree(t *testing.T) {
	r := rand.New(rand.NewSource(11))
	for _, a := range drawn(r) {
		onto := some(r, 6, 1+r.Intn(2))
		part := slices.DeleteFunc(slices.Clone(onto), func(int) bool { return r.Intn(3) == 0 })
		first, _, _ := projection.Project(a, onto)
		second, _, _ := projection.Project(first, part)
		direct, _, _ := projection.Project(a, part)
		if same, w, e := minimal.Equivalent(second, direct); e != api.OK || !same {
			t.Errorf("the projections of %v onto %v and %v, and at once, differ by %v, %d", a, onto, part, w, e)
		}
		canonical, _ := automaton.Canonical(a)
		p, l, e := projection.Project(a, a.Alphabet)
		if e != api.OK || !automaton.Equal(p, canonical) {
			t.Errorf("the projection of %v onto all events is %v, %d", a, p, e)
		}
		for _, set := range l {
			if len(set) != 1 {
				t.Errorf("the estimates of %v with all events are %v", a, l)
			}
		}
	}
}

// call is the error that a function has returned, and whether all its other results are zero values.
type call struct {
	name  string
	e     api.Errno
	empty bool
}

// calls calls all functions with the same arguments.
func calls(a api.Automaton, set, states, observation []int, event int) []call {
	var c []call
	add := func(name string, e api.Errno, empty bool) { c = append(c, call{name, e, empty}) }
	p, l, e := projection.Project(a, set)
	add("Project", e, automaton.Equal(p, api.Automaton{}) && len(l) == 0)
	p, e = projection.Inverse(a, set)
	add("Inverse", e, automaton.Equal(p, api.Automaton{}))
	x, e := projection.Reach(a, states, set)
	add("Reach", e, len(x) == 0)
	x, e = projection.Estimate(a, set, observation)
	add("Estimate", e, len(x) == 0)
	x, e = projection.Next(a, set, states, event)
	add("Next", e, len(x) == 0)
	w, found, e := projection.Lift(a, set, observation, false)
	add("Lift", e, len(w) == 0 && !found)
	w, found, e = projection.Lift(a, set, observation, true)
	add("Lift marked", e, len(w) == 0 && !found)
	return c
}

// All functions return the error of automaton.Check first, then that of the set of events, and nothing else with it.
func TestFirstErrors(t *testing.T) {
	machines := []api.Automaton{
		{Alphabet: ints{32}},
		{Alphabet: ints{-1}, States: -1},
		{Alphabet: ints{1, 1}},
		{States: -1},
		{States: math.MinInt},
		{States: api.MaxStates + 1},
		{States: math.MaxInt, Marked: ints{0}},
		{States: 2, Marked: ints{2}},
		{States: 2, Marked: ints{1, 0}},
		{Alphabet: ints{3}, States: 2, Edges: edges{{From: 0, Event: 3, To: 2}}},
		{Alphabet: ints{3}, States: 2, Edges: edges{{From: 0, Event: 2, To: 1}}},
		{Alphabet: ints{3}, States: 2, Edges: edges{{From: 1, Event: 3, To: 1}, {From: 0, Event: 3, To: 0}}},
	}
	sets := []struct {
		set []int
		e   api.Errno
	}{
		{ints{-1}, api.ErrRange},
		{ints{32}, api.ErrRange},
		{ints{math.MinInt, 0}, api.ErrRange},
		{ints{0, math.MaxInt}, api.ErrRange},
		{ints{1, 1}, api.ErrOrder},
		{ints{1, 0}, api.ErrOrder},
		{ints{1, 0, 99}, api.ErrOrder},
		{ints{1, 99, 0}, api.ErrRange},
		{ints{1, -1}, api.ErrRange},
	}
	for _, states := range [][]int{{0}, {2, 1}, {99}} {
		for _, observation := range [][]int{nil, {7}} {
			for i, a := range machines {
				want := automaton.Check(a)
				if want == api.OK {
					t.Fatalf("%d: %v is an automaton", i, a)
				}
				for _, set := range append(sets, sets[0]) {
					for _, c := range calls(a, set.set, states, observation, 7) {
						if c.e != want || !c.empty {
							t.Errorf("%d: %s(%v): %d, not %d", i, c.name, set.set, c.e, want)
						}
					}
				}
			}
			for _, s := range sets {
				for _, c := range calls(example(), s.set, states, observation, 7) {
					if c.e != s.e || !c.empty {
						t.Errorf("%s(%v): %d, not %d", c.name, s.set, c.e, s.e)
					}
				}
			}
		}
	}
	for _, c := range calls(example(), ints{0, 31}, ints{2}, ints{0}, 0) {
		if c.e != api.OK {
			t.Errorf("%s: %d", c.name, c.e)
		}
	}
}

// The errors of sets of states come after those of sets of events, and before that of the event.
func TestErrorsOfStates(t *testing.T) {
	for _, c := range []struct {
		states []int
		e      api.Errno
	}{
		{ints{3}, api.ErrRange},
		{ints{-1}, api.ErrRange},
		{ints{0, math.MaxInt}, api.ErrRange},
		{ints{0, 0}, api.ErrOrder},
		{ints{2, 1}, api.ErrOrder},
		{ints{2, 1, 3}, api.ErrOrder},
		{ints{2, 3, 1}, api.ErrRange},
		{ints{0, 1, 2}, api.OK},
	} {
		for _, event := range []int{1, 0, -1} {
			want := c.e
			if want == api.OK && event != 1 {
				want = api.ErrUnknown
			}
			if set, e := projection.Next(example(), ints{1}, c.states, event); e != want || e != api.OK && len(set) > 0 {
				t.Errorf("Next(%v, %d) = %v, %d, not %d", c.states, event, set, e, want)
			}
		}
		if set, e := projection.Reach(example(), c.states, ints{1}); e != c.e || e != api.OK && len(set) > 0 {
			t.Errorf("Reach(%v) = %v, %d, not %d", c.states, set, e, c.e)
		}
	}
	if _, e := projection.Reach(api.Automaton{}, ints{0}, nil); e != api.ErrRange {
		t.Errorf("Reach in the empty automaton: %d", e)
	}
	if set, e := projection.Reach(api.Automaton{}, nil, ints{0}); e != api.OK || len(set) > 0 {
		t.Errorf("Reach in the empty automaton = %v, %d", set, e)
	}
}

// wheel returns an automaton with as many states as possible, in which 0 leads through all states, and 1 leads back to the first one.
func wheel() api.Automaton {
	a := api.Automaton{Alphabet: ints{0, 1}, States: api.MaxStates, Marked: ints{api.MaxStates - 1}}
	for s := range a.States {
		a.Edges = append(a.Edges, api.Edge{From: s, Event: 0, To: (s + 1) % a.States}, api.Edge{From: s, Event: 1, To: 0})
	}
	return a
}

// Automata with as many states as possible.
func TestLargeAutomata(t *testing.T) {
	a := wheel()
	all := numbers(a.States)
	if p, l, e := projection.Project(a, ints{1}); e != api.OK || p.States != 1 || len(p.Edges) != 1 || len(l) != 1 || !slices.Equal(l[0], all) {
		t.Errorf("Project: %d states, %d", p.States, e)
	}
	if p, l, e := projection.Project(a, ints{0}); e != api.OK || p.States != api.MaxStates || len(l[5]) != 6 {
		t.Errorf("Project: %d states, %d", p.States, e)
	}
	if set, e := projection.Reach(a, ints{5}, ints{0}); e != api.OK || !slices.Equal(set, all) {
		t.Errorf("Reach: %d states, %d", len(set), e)
	}
	if set, e := projection.Estimate(a, ints{1}, slices.Repeat(ints{1}, 50)); e != api.OK || !slices.Equal(set, all) {
		t.Errorf("Estimate: %d states, %d", len(set), e)
	}
	if w, found, e := projection.Lift(a, ints{1}, ints{1, 1}, true); e != api.OK || !found || len(w) != api.MaxStates+1 || w[1] != 1 || w[2] != 0 {
		t.Errorf("Lift: %d events, %t, %d", len(w), found, e)
	}
	if w, found, e := projection.Lift(a, ints{0}, slices.Repeat(ints{0}, api.MaxWord), false); e != api.OK || !found || len(w) != api.MaxWord {
		t.Errorf("Lift: %d events, %t, %d", len(w), found, e)
	}
	if b, e := projection.Inverse(a, numbers(api.MaxEvents)); e != api.OK || b.States != api.MaxStates || len(b.Edges) != api.MaxStates*api.MaxEvents {
		t.Errorf("Inverse: %d states, %d edges, %d", b.States, len(b.Edges), e)
	}
}

// Neither arguments are changed, nor do results share memory with them or with each other.
func TestArgumentsAreKept(t *testing.T) {
	a := example()
	onto, states, observation := ints{1, 5}, ints{0, 1}, ints{1, 1}
	for range 2 {
		p, l, _ := projection.Project(a, onto)
		q, _, _ := projection.Project(a, ints{0, 1})
		b, _ := projection.Inverse(a, onto)
		c, _ := projection.Inverse(a, nil)
		for _, x := range []api.Automaton{p, q, b, c} {
			for i := range x.Edges {
				x.Edges[i] = api.Edge{From: -7}
			}
			scribble(x.Alphabet, x.Marked)
		}
		for n, want := range [][]int{{0, 1}, {0, 1, 2}} {
			if !slices.Equal(l[n], want) {
				t.Errorf("the estimate %d is %v, not %v", n, l[n], want)
			}
			scribble(append(l[n], 0))
		}
		x, _ := projection.Reach(a, states, nil)
		y, _ := projection.Estimate(a, onto, nil)
		z, _ := projection.Next(a, onto, states, 1)
		w, _, _ := projection.Lift(a, onto, observation, false)
		v, _, _ := projection.Lift(a, ints{0, 1}, observation, false)
		scribble(x, y, z, w, v)
		projection.Alike(onto, observation, states)
	}
	if !automaton.Equal(a, example()) || !slices.Equal(onto, ints{1, 5}) || !slices.Equal(states, ints{0, 1}) || !slices.Equal(observation, ints{1, 1}) {
		t.Errorf("changed: %v, %v, %v, %v", a, onto, states, observation)
	}
}

func scribble(l ...[]int) {
	for _, set := range l {
		for i := range set {
			set[i] = -7
		}
	}
}

package nondeterministic_test

import (
	"math"
	"math/rand"
	"slices"
	"testing"

	"overseer/alphabet"
	"overseer/api"
	"overseer/automaton"
	"overseer/nondeterministic"
)

type (
	edges = []api.Edge
	ints  = []int
)

// example is the automaton of the chapter's first example.
func example() api.Nondeterministic {
	return api.Nondeterministic{Alphabet: ints{0}, States: 3, Initial: ints{0}, Marked: ints{2}, Edges: edges{{From: 0, Event: api.Silent, To: 1}, {From: 1, Event: 0, To: 2}, {From: 2, Event: 0, To: 2}}}
}

// some draws the sequence of numbers below n, each with the chance of one in few.
func some(r *rand.Rand, n, few int) []int {
	var set []int
	for x := range n {
		if r.Intn(few) == 0 {
			set = append(set, x)
		}
	}
	return set
}

// drawn returns the empty automaton, special ones, and many small ones that are drawn in a fixed way.
func drawn(r *rand.Rand) []api.Nondeterministic {
	l := []api.Nondeterministic{{}, {Alphabet: ints{0, 31}}, {States: 1}, {Alphabet: ints{1}, States: 2, Initial: ints{0, 1}, Marked: ints{0, 1}}, example()}
	for range 300 {
		a := api.Nondeterministic{Alphabet: some(r, 4, 1+r.Intn(2)), States: 1 + r.Intn(6)}
		a.Initial, a.Marked = some(r, a.States, 1+r.Intn(4)), some(r, a.States, 1+r.Intn(4))
		few := 2 + r.Intn(8)
		for from := range a.States {
			for _, x := range append(ints{api.Silent}, a.Alphabet...) {
				for _, to := range some(r, a.States, few) {
					a.Edges = append(a.Edges, api.Edge{From: from, Event: x, To: to})
				}
			}
		}
		l = append(l, a)
	}
	return l
}

// deterministic draws automata without silent edges, and with one edge for a state and an event.
func deterministic(r *rand.Rand) []api.Automaton {
	l := []api.Automaton{{}, {Alphabet: ints{2, 5}}, {States: 1}}
	for range 200 {
		a := api.Automaton{Alphabet: some(r, 4, 1+r.Intn(2)), States: 1 + r.Intn(7)}
		a.Marked = some(r, a.States, 2)
		for from := range a.States {
			for _, x := range a.Alphabet {
				if r.Intn(2) == 0 {
					a.Edges = append(a.Edges, api.Edge{From: from, Event: x, To: r.Intn(a.States)})
				}
			}
		}
		l = append(l, a)
	}
	return l
}

// follow returns the closure of a set of states, or, of its closure, what an event reaches: states are added until none is missing.
func follow(a api.Nondeterministic, set ints, event int) ints {
	if event != api.Silent {
		var next ints
		for _, x := range a.Edges {
			if x.Event == event && slices.Contains(follow(a, set, api.Silent), x.From) {
				next = append(next, x.To)
			}
		}
		set = next
	}
	set = slices.Clone(set)
	for n := -1; n < len(set); {
		n = len(set)
		for _, x := range a.Edges {
			if x.Event == api.Silent && slices.Contains(set, x.From) && !slices.Contains(set, x.To) {
				set = append(set, x.To)
			}
		}
	}
	slices.Sort(set)
	return slices.Compact(set)
}

// after returns what a word reaches from the initial states.
func after(a api.Nondeterministic, word ints) ints {
	set := follow(a, a.Initial, api.Silent)
	for _, x := range word {
		set = follow(a, set, x)
	}
	return set
}

// wordsOver returns all words over an alphabet with at most n events, in order.
func wordsOver(set ints, n int) []ints {
	l, last := []ints{{}}, []ints{{}}
	for range n {
		var longer []ints
		for _, w := range last {
			for _, x := range set {
				longer = append(longer, append(slices.Clone(w), x))
			}
		}
		l, last = append(l, longer...), longer
	}
	return l
}

// belongs returns whether a word is generated and accepted; no word with an event that is not in the alphabet is.
func belongs(a api.Nondeterministic, word ints) [2]bool {
	for _, x := range word {
		if !slices.Contains(a.Alphabet, x) {
			return [2]bool{}
		}
	}
	set := after(a, word)
	return [2]bool{len(set) > 0, meets(set, a.Marked)}
}

func meets(a, b ints) bool {
	return slices.ContainsFunc(a, func(x int) bool { return slices.Contains(b, x) })
}

// languages returns what Generates and Accepts say of a word, without the error that an unknown event is.
func languages(t *testing.T, a api.Nondeterministic, word ints) [2]bool {
	t.Helper()
	p, e := nondeterministic.Generates(a, word)
	q, f := nondeterministic.Accepts(a, word)
	if e != f || e != api.OK && (e != api.ErrUnknown || p || q) {
		t.Errorf("%v: Generates(%v) = %t, %d, Accepts = %t, %d", a, word, p, e, q, f)
	}
	return [2]bool{p, q}
}

// broken returns values that are no automata, each with its error.
func broken() []struct {
	a api.Nondeterministic
	e api.Errno
} {
	type nfa = api.Nondeterministic
	return []struct {
		a nfa
		e api.Errno
	}{
		{nfa{States: -1}, api.ErrRange},
		{nfa{States: math.MinInt, Alphabet: ints{1, 1}}, api.ErrRange},
		{nfa{States: api.MaxStates + 1}, api.ErrLimit},
		{nfa{States: math.MaxInt, Alphabet: ints{-1}}, api.ErrLimit},
		{nfa{Alphabet: ints{-1}}, api.ErrRange},
		{nfa{Alphabet: ints{32}}, api.ErrRange},
		{nfa{Alphabet: ints{4, 4}}, api.ErrOrder},
		{nfa{Alphabet: ints{4, 3, 32}, Initial: ints{0}}, api.ErrOrder},
		{nfa{Alphabet: ints{4, 32}, Initial: ints{0}}, api.ErrRange},
		{nfa{Initial: ints{0}}, api.ErrRange},
		{nfa{States: 2, Initial: ints{-1}}, api.ErrRange},
		{nfa{States: 2, Initial: ints{0, 2}}, api.ErrRange},
		{nfa{States: 2, Initial: ints{0, 0}, Marked: ints{2}}, api.ErrOrder},
		{nfa{States: 2, Initial: ints{1, 0}, Marked: ints{2}}, api.ErrOrder},
		{nfa{Marked: ints{0}}, api.ErrRange},
		{nfa{States: 2, Marked: ints{-1}, Edges: edges{{Event: 7}}}, api.ErrRange},
		{nfa{States: 2, Marked: ints{2}, Edges: edges{{Event: 7}}}, api.ErrRange},
		{nfa{States: 2, Marked: ints{1, 1}, Edges: edges{{From: 2}}}, api.ErrOrder},
		{nfa{States: 2, Alphabet: ints{3}, Edges: edges{{From: 2, Event: 3}}}, api.ErrRange},
		{nfa{States: 2, Alphabet: ints{3}, Edges: edges{{From: -1, Event: 3}}}, api.ErrRange},
		{nfa{States: 2, Alphabet: ints{3}, Edges: edges{{Event: 3, To: 2}}}, api.ErrRange},
		{nfa{States: 2, Alphabet: ints{3}, Edges: edges{{Event: 3, To: -1}}}, api.ErrRange},
		{nfa{States: 2, Alphabet: ints{3}, Edges: edges{{Event: 4, To: 2}}}, api.ErrRange},
		{nfa{States: 2, Alphabet: ints{3}, Edges: edges{{Event: 4, To: 1}}}, api.ErrUnknown},
		{nfa{States: 2, Alphabet: ints{3}, Edges: edges{{Event: 0, To: 1}}}, api.ErrUnknown},
		{nfa{States: 2, Alphabet: ints{3}, Edges: edges{{Event: -2, To: 1}}}, api.ErrUnknown},
		{nfa{States: 2, Alphabet: ints{3}, Edges: edges{{Event: math.MaxInt, To: 1}}}, api.ErrUnknown},
		{nfa{States: 2, Alphabet: ints{3}, Edges: edges{{From: 1, Event: 3}, {From: 0, Event: 4}}}, api.ErrUnknown},
		{nfa{States: 2, Alphabet: ints{3}, Edges: edges{{From: 1, Event: 3}, {From: 0, Event: 3}, {From: 5}}}, api.ErrOrder},
		{nfa{States: 2, Alphabet: ints{3}, Edges: edges{{Event: 3, To: 1}, {Event: 3, To: 1}}}, api.ErrOrder},
		{nfa{States: 2, Alphabet: ints{3}, Edges: edges{{Event: 3, To: 1}, {Event: 3, To: 0}}}, api.ErrOrder},
		{nfa{States: 2, Alphabet: ints{3}, Edges: edges{{Event: 3, To: 0}, {Event: api.Silent, To: 1}}}, api.ErrOrder},
		{nfa{States: 2, Alphabet: ints{3, 4}, Edges: edges{{Event: 4, To: 0}, {Event: 3, To: 1}}}, api.ErrOrder},
		{nfa{States: 2, Edges: edges{{Event: api.Silent}, {Event: api.Silent}}}, api.ErrOrder},
	}
}

// P5.1
func TestCheck(t *testing.T) {
	for i, a := range append(drawn(rand.New(rand.NewSource(1))), manySets(12), line(api.MaxStates),
		api.Nondeterministic{Alphabet: ints{3}, States: 2, Initial: ints{0, 1}, Edges: edges{{Event: api.Silent}, {Event: api.Silent, To: 1}, {Event: 3}, {Event: 3, To: 1}, {From: 1, Event: api.Silent}}},
	) {
		if e := nondeterministic.Check(a); e != api.OK {
			t.Errorf("%d: Check: %d", i, e)
		}
	}
	for i, c := range broken() {
		if e := nondeterministic.Check(c.a); e != c.e {
			t.Errorf("%d: Check(%v): %d, not %d", i, c.a, e, c.e)
		}
	}
}

// P5.1
func TestEqual(t *testing.T) {
	type nfa = api.Nondeterministic
	empty := nfa{Alphabet: ints{}, Initial: ints{}, Marked: ints{}, Edges: edges{}}
	if !nondeterministic.Equal(nfa{}, empty) || !nondeterministic.Equal(empty, nfa{}) || !nondeterministic.Equal(example(), example()) {
		t.Error("automata differ from themselves")
	}
	for i, change := range []func(a *nfa){
		func(a *nfa) { a.Alphabet = ints{1} },
		func(a *nfa) { a.Alphabet = nil },
		func(a *nfa) { a.States = 4 },
		func(a *nfa) { a.States = -1 },
		func(a *nfa) { a.Initial = ints{0, 1} },
		func(a *nfa) { a.Initial = nil },
		func(a *nfa) { a.Marked = ints{1} },
		func(a *nfa) { a.Marked = nil },
		func(a *nfa) { a.Edges = a.Edges[:2] },
		func(a *nfa) { a.Edges[0].From = 1 },
		func(a *nfa) { a.Edges[1].Event = api.Silent },
		func(a *nfa) { a.Edges[2].To = 0 },
	} {
		a := example()
		change(&a)
		if nondeterministic.Equal(a, example()) || nondeterministic.Equal(example(), a) || !nondeterministic.Equal(a, a) {
			t.Errorf("%d: %v", i, a)
		}
	}
	for i, c := range broken() {
		if !nondeterministic.Equal(c.a, c.a) {
			t.Errorf("%d: %v is not equal to itself", i, c.a)
		}
	}
}

// P5.2
func TestClosureAndStep(t *testing.T) {
	r := rand.New(rand.NewSource(2))
	for _, a := range drawn(r) {
		for range 5 {
			set := some(r, a.States, 1+r.Intn(3))
			if l, e := nondeterministic.Closure(a, set); e != api.OK || !slices.Equal(l, follow(a, set, api.Silent)) {
				t.Errorf("Closure(%v, %v) = %v, %d", a, set, l, e)
			}
			for _, x := range a.Alphabet {
				if l, e := nondeterministic.Step(a, set, x); e != api.OK || !slices.Equal(l, follow(a, set, x)) {
					t.Errorf("Step(%v, %v, %d) = %v, %d", a, set, x, l, e)
				}
			}
		}
	}
	for i, c := range []struct{ set, closure, next ints }{
		{nil, nil, nil},
		{ints{0}, ints{0, 1}, ints{2}},
		{ints{1}, ints{1}, ints{2}},
		{ints{0, 2}, ints{0, 1, 2}, ints{2}},
	} {
		l, e := nondeterministic.Closure(example(), c.set)
		m, f := nondeterministic.Step(example(), c.set, 0)
		if e != api.OK || f != api.OK || !slices.Equal(l, c.closure) || !slices.Equal(m, c.next) {
			t.Errorf("%d: Closure = %v, %d; Step = %v, %d", i, l, e, m, f)
		}
	}
}

// P5.2
func TestErrorsOfSets(t *testing.T) {
	for i, c := range []struct {
		set   ints
		event int
		e     api.Errno
	}{
		{ints{3}, 5, api.ErrRange},
		{ints{-1}, 0, api.ErrRange},
		{ints{1, math.MaxInt}, 0, api.ErrRange},
		{ints{1, 1}, 5, api.ErrOrder},
		{ints{2, 0, 9}, 0, api.ErrOrder},
		{ints{0}, 5, api.ErrUnknown},
		{ints{0}, 1, api.ErrUnknown},
		{nil, api.Silent, api.ErrUnknown},
		{ints{0}, math.MaxInt, api.ErrUnknown},
		{ints{0}, math.MinInt, api.ErrUnknown},
	} {
		if l, e := nondeterministic.Step(example(), c.set, c.event); len(l) != 0 || e != c.e {
			t.Errorf("%d: Step = %v, %d, not %d", i, l, e, c.e)
		}
		if l, e := nondeterministic.Closure(example(), c.set); c.e != api.ErrUnknown && (len(l) != 0 || e != c.e) {
			t.Errorf("%d: Closure = %v, %d, not %d", i, l, e, c.e)
		}
	}
}

// P5.3
func TestWords(t *testing.T) {
	for _, a := range drawn(rand.New(rand.NewSource(3))) {
		for _, w := range wordsOver(a.Alphabet, 3) {
			set := after(a, w)
			if l, e := nondeterministic.After(a, w); e != api.OK || !slices.Equal(l, set) {
				t.Errorf("After(%v, %v) = %v, %d, not %v", a, w, l, e, set)
			}
			if got := languages(t, a, w); got != belongs(a, w) {
				t.Errorf("%v: %v is generated, accepted: %v", a, w, got)
			}
		}
	}
}

// P5.3
func TestErrorsOfWords(t *testing.T) {
	long := make(ints, api.MaxWord+1)
	unknown := slices.Clone(long)
	unknown[5] = 9
	for i, c := range []struct {
		a    api.Nondeterministic
		word ints
		e    api.Errno
	}{
		{example(), long[1:], api.OK},
		{example(), long, api.ErrLong},
		{example(), unknown, api.ErrLong},
		{example(), unknown[1:], api.ErrUnknown},
		{example(), ints{1}, api.ErrUnknown},
		{example(), ints{0, 0, 1}, api.ErrUnknown},
		{example(), ints{api.Silent}, api.ErrUnknown},
		{example(), ints{math.MaxInt}, api.ErrUnknown},
		{api.Nondeterministic{}, ints{0}, api.ErrUnknown},
		{api.Nondeterministic{Alphabet: ints{0}, States: 1}, ints{0, 1}, api.ErrUnknown},
	} {
		l, e := nondeterministic.After(c.a, c.word)
		p, f := nondeterministic.Generates(c.a, c.word)
		q, g := nondeterministic.Accepts(c.a, c.word)
		if e != c.e || f != c.e || g != c.e || p != (e == api.OK) || q != p || (len(l) > 0) != p {
			t.Errorf("%d: %v, %d; %t, %d; %t, %d", i, l, e, p, f, q, g)
		}
	}
	if p := languages(t, api.Nondeterministic{States: 1, Marked: ints{0}}, nil); p != [2]bool{} {
		t.Errorf("without initial states there are words: %v", p)
	}
}

// P5.4, and what P5.6 says of it: the states are the sets that words reach, in the order of their least words.
func TestDeterminize(t *testing.T) {
	for _, a := range drawn(rand.New(rand.NewSource(4))) {
		d, sets, e := nondeterministic.Determinize(a)
		if e != api.OK || !automaton.IsCanonical(d) || len(sets) != d.States || !slices.Equal(d.Alphabet, a.Alphabet) {
			t.Fatalf("Determinize(%v) = %v, %v, %d", a, d, sets, e)
		}
		if (d.States == 0) != (len(a.Initial) == 0) {
			t.Errorf("Determinize(%v) has %d states", a, d.States)
		}
		for i, set := range sets {
			if len(set) == 0 || slices.IndexFunc(sets, func(s []int) bool { return slices.Equal(s, set) }) != i {
				t.Errorf("Determinize(%v): set %d of %v", a, i, sets)
			}
			if slices.Contains(d.Marked, i) != meets(set, a.Marked) {
				t.Errorf("Determinize(%v): %v, %v, marked %v", a, d, sets, d.Marked)
			}
		}
		for _, w := range wordsOver(a.Alphabet, 4) {
			is := false
			if d.States > 0 {
				s, done, _ := automaton.Run(d, 0, w)
				is = done == len(w)
				if is && !slices.Equal(sets[s], after(a, w)) {
					t.Errorf("Determinize(%v): %v leads to %v", a, w, sets[s])
				}
			}
			accepted, _ := automaton.Accepts(d, w)
			if got := [2]bool{is, accepted}; got != belongs(a, w) {
				t.Errorf("Determinize(%v): %v, %v", a, w, got)
			}
		}
	}
}

// P5.4: the chapter's first example, and Erase in its third one.
func TestExamples(t *testing.T) {
	d, sets, e := nondeterministic.Determinize(example())
	want := api.Automaton{Alphabet: ints{0}, States: 2, Marked: ints{1}, Edges: edges{{From: 0, Event: 0, To: 1}, {From: 1, Event: 0, To: 1}}}
	if e != api.OK || !automaton.Equal(d, want) || !slices.EqualFunc(sets, []ints{{0, 1}, {2}}, slices.Equal[ints]) {
		t.Errorf("Determinize = %v, %v, %d", d, sets, e)
	}
	b, e := nondeterministic.Reverse(example())
	back := api.Nondeterministic{Alphabet: ints{0}, States: 3, Initial: ints{2}, Marked: ints{0}, Edges: edges{{From: 1, Event: api.Silent, To: 0}, {From: 2, Event: 0, To: 1}, {From: 2, Event: 0, To: 2}}}
	if e != api.OK || !nondeterministic.Equal(b, back) || languages(t, b, ints{0}) != [2]bool{true, true} {
		t.Errorf("Reverse = %v, %d", b, e)
	}
	b, e = nondeterministic.Erase(example(), ints{0})
	silent := api.Nondeterministic{States: 3, Initial: ints{0}, Marked: ints{2}, Edges: edges{{From: 0, Event: api.Silent, To: 1}, {From: 1, Event: api.Silent, To: 2}, {From: 2, Event: api.Silent, To: 2}}}
	if e != api.OK || !nondeterministic.Equal(b, silent) {
		t.Errorf("Erase = %v, %d", b, e)
	}
	if l, e := nondeterministic.Closure(b, ints{0}); e != api.OK || !slices.Equal(l, ints{0, 1, 2}) {
		t.Errorf("Closure = %v, %d", l, e)
	}
	none, sets, e := nondeterministic.Determinize(api.Nondeterministic{Alphabet: ints{0, 9}, States: 2, Marked: ints{0}, Edges: edges{{Event: 0, To: 1}}})
	if e != api.OK || len(sets) != 0 || !automaton.Equal(none, api.Automaton{Alphabet: ints{0, 9}}) {
		t.Errorf("Determinize without initial states = %v, %v, %d", none, sets, e)
	}
}

// manySets returns an automaton that remembers which of the last n events were 1; 2 to the power of n sets of states are reached.
func manySets(n int) api.Nondeterministic {
	a := api.Nondeterministic{Alphabet: ints{0, 1}, States: n + 1, Initial: ints{0}, Marked: ints{n}, Edges: edges{{Event: 0}, {Event: 1}, {Event: 1, To: 1}}}
	for s := 1; s < n; s++ {
		a.Edges = append(a.Edges, api.Edge{From: s, Event: 0, To: s + 1}, api.Edge{From: s, Event: 1, To: s + 1})
	}
	return a
}

// line returns an automaton in which all states are initial, and the event 0 leads from each one to the next one.
func line(n int) api.Nondeterministic {
	a := api.Nondeterministic{Alphabet: ints{0}, States: n, Marked: ints{n - 1}}
	for s := range n {
		a.Initial = append(a.Initial, s)
		if s+1 < n {
			a.Edges = append(a.Edges, api.Edge{From: s, Event: 0, To: s + 1})
		}
	}
	return a
}

// P5.4: automata whose deterministic ones have as many states as possible, or one more.
func TestLimitOfDeterminize(t *testing.T) {
	a := manySets(12)
	d, sets, e := nondeterministic.Determinize(a)
	if e != api.OK || d.States != api.MaxStates || len(sets) != api.MaxStates || len(d.Marked) != api.MaxStates/2 || len(d.Edges) != 2*api.MaxStates {
		t.Errorf("Determinize: %d states, %d", d.States, e)
	}
	more := manySets(12)
	more.Alphabet, more.States, more.Initial = ints{0, 1, 2}, 14, ints{13}
	more.Edges = append(more.Edges, api.Edge{From: 13, Event: 2, To: 0})
	for i, a := range []api.Nondeterministic{more, manySets(13), manySets(40)} {
		if d, sets, e := nondeterministic.Determinize(a); e != api.ErrLimit || !automaton.Equal(d, api.Automaton{}) || len(sets) != 0 {
			t.Errorf("%d: Determinize: %d states, %d", i, d.States, e)
		}
	}
	d, sets, e = nondeterministic.Determinize(line(api.MaxStates))
	if e != api.OK || d.States != api.MaxStates || len(d.Marked) != api.MaxStates || len(sets[0]) != api.MaxStates || !slices.Equal(sets[api.MaxStates-1], ints{api.MaxStates - 1}) {
		t.Errorf("Determinize of a line: %d states, %d", d.States, e)
	}
}

// P5.5, and what P5.6 says of From.
func TestFrom(t *testing.T) {
	for _, a := range deterministic(rand.New(rand.NewSource(5))) {
		b, e := nondeterministic.From(a)
		want := api.Nondeterministic{Alphabet: a.Alphabet, States: a.States, Marked: a.Marked, Edges: a.Edges}
		if a.States > 0 {
			want.Initial = ints{0}
		}
		if e != api.OK || !nondeterministic.Equal(b, want) || nondeterministic.Check(b) != api.OK {
			t.Errorf("From(%v) = %v, %d", a, b, e)
		}
		form, _ := automaton.Canonical(a)
		if d, _, e := nondeterministic.Determinize(b); e != api.OK || !automaton.Equal(d, form) {
			t.Errorf("Determinize of From(%v) = %v, %d", a, d, e)
		}
	}
	for i, a := range []api.Automaton{
		{Alphabet: ints{32}, States: -1},
		{Alphabet: ints{1, 1}},
		{States: -1},
		{States: api.MaxStates + 1},
		{States: 1, Marked: ints{1}},
		{States: 1, Edges: edges{{Event: api.Silent}}},
		{Alphabet: ints{0}, States: 2, Edges: edges{{}, {To: 1}}},
	} {
		if b, e := nondeterministic.From(a); e != automaton.Check(a) || e == api.OK || !nondeterministic.Equal(b, api.Nondeterministic{}) {
			t.Errorf("%d: From = %v, %d", i, b, e)
		}
	}
}

// P5.5, and what P5.6 says of Erase: a word is in a language exactly if it is what is left of a word that was in it.
func TestErase(t *testing.T) {
	r := rand.New(rand.NewSource(6))
	merged := 0
	for _, a := range drawn(r) {
		events := some(r, 4, 2)
		b, e := nondeterministic.Erase(a, events)
		if e != api.OK || nondeterministic.Check(b) != api.OK || b.States != a.States || !slices.Equal(b.Initial, a.Initial) || !slices.Equal(b.Marked, a.Marked) || !slices.Equal(b.Alphabet, alphabet.Minus(a.Alphabet, events)) {
			t.Fatalf("Erase(%v, %v) = %v, %d", a, events, b, e)
		}
		var want edges
		for _, x := range a.Edges {
			if slices.Contains(events, x.Event) {
				x.Event = api.Silent
			}
			if !slices.Contains(want, x) {
				want = append(want, x)
			}
		}
		if slices.ContainsFunc(want, func(x api.Edge) bool { return !slices.Contains(b.Edges, x) }) || len(b.Edges) != len(want) {
			t.Errorf("Erase(%v, %v) = %v", a, events, b)
		}
		if len(want) < len(a.Edges) {
			merged++
		}
		for _, w := range wordsOver(a.Alphabet, 3) {
			rest := slices.DeleteFunc(slices.Clone(w), func(x int) bool { return slices.Contains(events, x) })
			if was, is := belongs(a, w), languages(t, b, rest); was[0] && !is[0] || was[1] && !is[1] {
				t.Errorf("Erase(%v, %v): %v is left of %v", a, events, rest, w)
			}
		}
		for _, set := range []ints{nil, alphabet.Minus(ints{0, 1, 2, 3, 4, 31}, a.Alphabet)} {
			if b, e := nondeterministic.Erase(a, set); e != api.OK || !nondeterministic.Equal(b, a) {
				t.Errorf("Erase(%v, %v) = %v, %d", a, set, b, e)
			}
		}
	}
	if merged < 20 {
		t.Errorf("only %d automata have edges that become one", merged)
	}
	for i, c := range []struct {
		events ints
		e      api.Errno
	}{{ints{-1}, api.ErrRange}, {ints{32}, api.ErrRange}, {ints{0, 0}, api.ErrOrder}, {ints{5, 4, 99}, api.ErrOrder}} {
		if b, e := nondeterministic.Erase(example(), c.events); e != c.e || !nondeterministic.Equal(b, api.Nondeterministic{}) {
			t.Errorf("%d: Erase = %v, %d", i, b, e)
		}
	}
}

// P5.5, and what P5.6 says of Reverse.
func TestReverse(t *testing.T) {
	for _, a := range drawn(rand.New(rand.NewSource(7))) {
		b, e := nondeterministic.Reverse(a)
		if e != api.OK || nondeterministic.Check(b) != api.OK || b.States != a.States || !slices.Equal(b.Alphabet, a.Alphabet) || !slices.Equal(b.Initial, a.Marked) || !slices.Equal(b.Marked, a.Initial) || len(b.Edges) != len(a.Edges) {
			t.Fatalf("Reverse(%v) = %v, %d", a, b, e)
		}
		for _, x := range a.Edges {
			if !slices.Contains(b.Edges, api.Edge{From: x.To, Event: x.Event, To: x.From}) {
				t.Errorf("Reverse(%v) = %v", a, b)
			}
		}
		if again, e := nondeterministic.Reverse(b); e != api.OK || !nondeterministic.Equal(again, a) {
			t.Errorf("Reverse of %v = %v, %d", b, again, e)
		}
		for _, w := range wordsOver(a.Alphabet, 3) {
			back := slices.Clone(w)
			slices.Reverse(back)
			if languages(t, b, back)[1] != belongs(a, w)[1] {
				t.Errorf("Reverse(%v): %v", a, back)
			}
		}
	}
}

// P5.5, and what P5.6 says of Union.
func TestUnion(t *testing.T) {
	l := drawn(rand.New(rand.NewSource(8)))
	for i, a := range l {
		b := l[(i*7+3)%len(l)]
		u, e := nondeterministic.Union(a, b)
		want := api.Nondeterministic{Alphabet: alphabet.Union(a.Alphabet, b.Alphabet), States: a.States + b.States, Initial: slices.Clone(a.Initial), Marked: slices.Clone(a.Marked), Edges: slices.Clone(a.Edges)}
		for _, s := range b.Initial {
			want.Initial = append(want.Initial, s+a.States)
		}
		for _, s := range b.Marked {
			want.Marked = append(want.Marked, s+a.States)
		}
		for _, x := range b.Edges {
			want.Edges = append(want.Edges, api.Edge{From: x.From + a.States, Event: x.Event, To: x.To + a.States})
		}
		if e != api.OK || !nondeterministic.Equal(u, want) || nondeterministic.Check(u) != api.OK {
			t.Fatalf("Union(%v, %v) = %v, %d", a, b, u, e)
		}
		for _, w := range wordsOver(u.Alphabet, 2) {
			p, q := belongs(a, w), belongs(b, w)
			if got := languages(t, u, w); got != [2]bool{p[0] || q[0], p[1] || q[1]} {
				t.Errorf("Union(%v, %v): %v, %v", a, b, w, got)
			}
		}
	}
}

// P5.5
func TestErrorsOfUnion(t *testing.T) {
	all, one := line(api.MaxStates), api.Nondeterministic{States: 1}
	for i, c := range []struct {
		a, b api.Nondeterministic
		e    api.Errno
	}{
		{all, one, api.ErrLimit},
		{one, all, api.ErrLimit},
		{all, all, api.ErrLimit},
		{all, api.Nondeterministic{}, api.OK},
		{line(api.MaxStates - 1), one, api.OK},
		{api.Nondeterministic{States: -1}, api.Nondeterministic{States: 5000}, api.ErrRange},
		{api.Nondeterministic{States: 5000}, api.Nondeterministic{States: -1}, api.ErrLimit},
	} {
		if u, e := nondeterministic.Union(c.a, c.b); e != c.e || e != api.OK && !nondeterministic.Equal(u, api.Nondeterministic{}) {
			t.Errorf("%d: Union: %d, not %d", i, e, c.e)
		}
	}
}

// All functions return the error of Check first, and nothing else with it.
func TestErrorOfCheckFirst(t *testing.T) {
	none := func(b api.Nondeterministic) bool { return nondeterministic.Equal(b, api.Nondeterministic{}) }
	for i, c := range broken() {
		for _, l := range []ints{nil, {0}, {1, 1}, {-1}, make(ints, api.MaxWord+1)} {
			x, e := nondeterministic.Closure(c.a, l)
			y, f := nondeterministic.Step(c.a, l, 3)
			z, g := nondeterministic.After(c.a, l)
			if len(x)+len(y)+len(z) != 0 || e != c.e || f != c.e || g != c.e {
				t.Errorf("%d: Closure: %d, Step: %d, After: %d", i, e, f, g)
			}
			p, e := nondeterministic.Generates(c.a, l)
			q, f := nondeterministic.Accepts(c.a, l)
			b, g := nondeterministic.Erase(c.a, l)
			if p || q || !none(b) || e != c.e || f != c.e || g != c.e {
				t.Errorf("%d: Generates: %d, Accepts: %d, Erase: %d", i, e, f, g)
			}
		}
		d, sets, e := nondeterministic.Determinize(c.a)
		b, f := nondeterministic.Reverse(c.a)
		if !automaton.Equal(d, api.Automaton{}) || len(sets) != 0 || !none(b) || e != c.e || f != c.e {
			t.Errorf("%d: Determinize: %d, Reverse: %d", i, e, f)
		}
		u, e := nondeterministic.Union(c.a, example())
		v, f := nondeterministic.Union(example(), c.a)
		if !none(u) || !none(v) || e != c.e || f != c.e {
			t.Errorf("%d: Union: %d, %d", i, e, f)
		}
	}
}

// Neither arguments are changed, nor do results share memory with them.
func TestArgumentsAreKept(t *testing.T) {
	a, set := example(), ints{0, 1}
	plain := api.Automaton{Alphabet: ints{0, 1}, States: 2, Marked: ints{1}, Edges: edges{{Event: 1, To: 1}}}
	for range 2 {
		x, _ := nondeterministic.Closure(a, set)
		y, _ := nondeterministic.After(a, ints{0})
		d, sets, _ := nondeterministic.Determinize(a)
		scribble(d.Edges, append(sets, x, y, d.Alphabet, d.Marked)...)
		for _, build := range []func() (api.Nondeterministic, api.Errno){
			func() (api.Nondeterministic, api.Errno) { return nondeterministic.From(plain) },
			func() (api.Nondeterministic, api.Errno) { return nondeterministic.Erase(a, set) },
			func() (api.Nondeterministic, api.Errno) { return nondeterministic.Erase(a, nil) },
			func() (api.Nondeterministic, api.Errno) { return nondeterministic.Reverse(a) },
			func() (api.Nondeterministic, api.Errno) { return nondeterministic.Union(a, a) },
			func() (api.Nondeterministic, api.Errno) { return nondeterministic.Union(api.Nondeterministic{}, a) },
			func() (api.Nondeterministic, api.Errno) { return nondeterministic.Union(a, api.Nondeterministic{}) },
		} {
			b, _ := build()
			scribble(b.Edges, b.Alphabet, b.Initial, b.Marked)
		}
	}
	same := slices.Equal(plain.Alphabet, ints{0, 1}) && slices.Equal(plain.Marked, ints{1}) && slices.Equal(plain.Edges, edges{{Event: 1, To: 1}})
	if !nondeterministic.Equal(a, example()) || !slices.Equal(set, ints{0, 1}) || !same {
		t.Errorf("changed: %v, %v, %v", a, set, plain)
	}
}

func scribble(l edges, sets ...[]int) {
	for i := range l {
		l[i] = api.Edge{From: -7}
	}
	for _, set := range sets {
		for i := range set {
			set[i] = -7
		}
	}
}

package automaton_test

import (
	"math"
	"math/rand"
	"slices"
	"testing"

	"overseer/api"
	"overseer/automaton"
)

// example is the automaton of the chapter's first example, and exampleForm its canonical form.
func example() api.Automaton {
	return api.Automaton{Alphabet: []int{0, 2}, States: 3, Marked: []int{2}, Edges: []api.Edge{{From: 0, Event: 0, To: 2}, {From: 0, Event: 2, To: 0}, {From: 2, Event: 2, To: 0}}}
}

func exampleForm() api.Automaton {
	return api.Automaton{Alphabet: []int{0, 2}, States: 2, Marked: []int{1}, Edges: []api.Edge{{From: 0, Event: 0, To: 1}, {From: 0, Event: 2, To: 0}, {From: 1, Event: 2, To: 0}}}
}

// chain returns an automaton in which event 0 leads from each of n states to the next one.
func chain(n int) api.Automaton {
	a := api.Automaton{Alphabet: []int{0}, States: n}
	for s := range n - 1 {
		a.Edges = append(a.Edges, api.Edge{From: s, Event: 0, To: s + 1})
	}
	return a
}

// ring returns a chain in which event 0 also leads from the last state to the first one.
func ring(n int) api.Automaton {
	a := chain(n)
	a.Edges = append(a.Edges, api.Edge{From: n - 1, Event: 0, To: 0})
	return a
}

// allWords returns an automaton with one state that generates all words over n events.
func allWords(n int) api.Automaton {
	a := api.Automaton{States: 1}
	for x := range n {
		a.Alphabet = append(a.Alphabet, x)
		a.Edges = append(a.Edges, api.Edge{Event: x})
	}
	return a
}

// somes returns the empty automaton, small special ones, and many that are drawn in a fixed way.
func somes() []api.Automaton {
	l := []api.Automaton{{}, {Alphabet: []int{3, 31}}, {States: 1}, {States: 2, Marked: []int{0, 1}}, example(), exampleForm(), chain(5), ring(5)}
	r := rand.New(rand.NewSource(7))
	for range 400 {
		a := api.Automaton{States: 1 + r.Intn(7)}
		for x := r.Intn(9); x < api.MaxEvents; x += 1 + r.Intn(14) {
			a.Alphabet = append(a.Alphabet, x)
		}
		dense := 1 + r.Intn(4)
		for s := range a.States {
			if r.Intn(3) == 0 {
				a.Marked = append(a.Marked, s)
			}
			for _, x := range a.Alphabet {
				if r.Intn(5) <= dense {
					a.Edges = append(a.Edges, api.Edge{From: s, Event: x, To: r.Intn(a.States)})
				}
			}
		}
		l = append(l, a)
	}
	return l
}

// broken returns values that are no automata, each with its error.
func broken() []struct {
	a api.Automaton
	e api.Errno
} {
	type edges = []api.Edge
	type l = []int
	return []struct {
		a api.Automaton
		e api.Errno
	}{
		{api.Automaton{Alphabet: l{-1}}, api.ErrRange},
		{api.Automaton{Alphabet: l{32}}, api.ErrRange},
		{api.Automaton{Alphabet: l{0, 5, math.MaxInt}}, api.ErrRange},
		{api.Automaton{Alphabet: l{1, 1}}, api.ErrOrder},
		{api.Automaton{Alphabet: l{0, 0}}, api.ErrOrder},
		{api.Automaton{Alphabet: l{3, 1}}, api.ErrOrder},
		{api.Automaton{Alphabet: l{3, 1, 32}}, api.ErrOrder},
		{api.Automaton{Alphabet: l{3, 32, 1}}, api.ErrRange},
		{api.Automaton{Alphabet: l{3, -1}}, api.ErrRange},
		{api.Automaton{Alphabet: l{1, 1}, States: -1}, api.ErrOrder},
		{api.Automaton{Alphabet: l{32}, States: 5000}, api.ErrRange},
		{api.Automaton{States: -1}, api.ErrRange},
		{api.Automaton{States: math.MinInt}, api.ErrRange},
		{api.Automaton{States: -1, Marked: l{1, 1}}, api.ErrRange},
		{api.Automaton{States: api.MaxStates + 1}, api.ErrLimit},
		{api.Automaton{States: math.MaxInt}, api.ErrLimit},
		{api.Automaton{States: api.MaxStates + 1, Marked: l{-1}}, api.ErrLimit},
		{api.Automaton{Marked: l{0}}, api.ErrRange},
		{api.Automaton{States: 2, Marked: l{2}}, api.ErrRange},
		{api.Automaton{States: 2, Marked: l{-1}}, api.ErrRange},
		{api.Automaton{States: 2, Marked: l{1, 0}}, api.ErrOrder},
		{api.Automaton{States: 2, Marked: l{1, 1}}, api.ErrOrder},
		{api.Automaton{States: 2, Marked: l{0, 0}}, api.ErrOrder},
		{api.Automaton{States: 2, Marked: l{1, 0, 2}}, api.ErrOrder},
		{api.Automaton{States: 2, Marked: l{0, 2, 1}}, api.ErrRange},
		{api.Automaton{States: 2, Marked: l{1, -1}}, api.ErrRange},
		{api.Automaton{States: 2, Marked: l{1, 0}, Edges: edges{{From: 5}}}, api.ErrOrder},
		{api.Automaton{Alphabet: l{3}, Edges: edges{{Event: 3}}}, api.ErrRange},
		{api.Automaton{Alphabet: l{3}, States: 2, Edges: edges{{From: 0, Event: 3, To: 2}}}, api.ErrRange},
		{api.Automaton{Alphabet: l{3}, States: 2, Edges: edges{{From: 0, Event: 3, To: -1}}}, api.ErrRange},
		{api.Automaton{Alphabet: l{3}, States: 2, Edges: edges{{From: 2, Event: 3, To: 0}}}, api.ErrRange},
		{api.Automaton{Alphabet: l{3}, States: 2, Edges: edges{{From: -1, Event: 3, To: 0}}}, api.ErrRange},
		{api.Automaton{Alphabet: l{3}, States: 2, Edges: edges{{From: 0, Event: 2, To: 2}}}, api.ErrRange},
		{api.Automaton{Alphabet: l{3}, States: 2, Edges: edges{{From: 0, Event: 2, To: 1}}}, api.ErrUnknown},
		{api.Automaton{Alphabet: l{3}, States: 2, Edges: edges{{From: 0, Event: 4, To: 1}}}, api.ErrUnknown},
		{api.Automaton{Alphabet: l{3}, States: 2, Edges: edges{{From: 0, Event: -1, To: 1}}}, api.ErrUnknown},
		{api.Automaton{Alphabet: l{3}, States: 2, Edges: edges{{From: 0, Event: 99, To: 1}}}, api.ErrUnknown},
		{api.Automaton{Alphabet: l{3, 5}, States: 2, Edges: edges{{From: 0, Event: 4, To: 1}}}, api.ErrUnknown},
		{api.Automaton{States: 1, Edges: edges{{}}}, api.ErrUnknown},
		{api.Automaton{Alphabet: l{3}, States: 2, Edges: edges{{From: 1, Event: 3}, {From: 0, Event: 2}}}, api.ErrUnknown},
		{api.Automaton{Alphabet: l{3}, States: 2, Edges: edges{{From: 0, Event: 3, To: 1}, {From: 0, Event: 3, To: 0}}}, api.ErrOrder},
		{api.Automaton{Alphabet: l{3}, States: 2, Edges: edges{{From: 0, Event: 3, To: 0}, {From: 0, Event: 3, To: 1}}}, api.ErrOrder},
		{api.Automaton{Alphabet: l{3}, States: 2, Edges: edges{{From: 0, Event: 3, To: 1}, {From: 0, Event: 3, To: 1}}}, api.ErrOrder},
		{api.Automaton{Alphabet: l{3, 4}, States: 2, Edges: edges{{From: 0, Event: 4, To: 0}, {From: 0, Event: 3, To: 1}}}, api.ErrOrder},
		{api.Automaton{Alphabet: l{3, 4}, States: 2, Edges: edges{{From: 1, Event: 3, To: 0}, {From: 0, Event: 4, To: 1}}}, api.ErrOrder},
		{api.Automaton{Alphabet: l{3, 4}, States: 2, Edges: edges{{From: 1, Event: 3, To: 0}, {From: 0, Event: 3, To: 1}}}, api.ErrOrder},
		{api.Automaton{Alphabet: l{3, 4}, States: 2, Edges: edges{{From: 1, Event: 3}, {From: 0, Event: 3}, {From: 7}}}, api.ErrOrder},
		{api.Automaton{Alphabet: l{3, 4}, States: 2, Edges: edges{{From: 0, Event: 3}, {From: 0, Event: 9}, {From: 7}}}, api.ErrUnknown},
		{api.Automaton{Alphabet: l{3, 4}, States: 2, Edges: edges{{From: 0, Event: 3}, {From: 7}, {From: 0, Event: 9}}}, api.ErrRange},
	}
}

// P3.1
func TestCheck(t *testing.T) {
	for i, a := range somes() {
		if e := automaton.Check(a); e != api.OK {
			t.Errorf("%d: Check: %d", i, e)
		}
	}
	var all []int
	for x := range api.MaxEvents {
		all = append(all, x)
	}
	var marked []int
	for s := range api.MaxStates {
		marked = append(marked, s)
	}
	for i, a := range []api.Automaton{
		{Alphabet: []int{0, 31}, States: 1, Marked: []int{0}},
		{Alphabet: all, States: api.MaxStates, Marked: marked},
		ring(api.MaxStates),
		{Alphabet: []int{3, 4}, States: 2, Marked: []int{1}, Edges: []api.Edge{{From: 0, Event: 4, To: 1}, {From: 1, Event: 3, To: 0}, {From: 1, Event: 4, To: 0}}},
	} {
		if e := automaton.Check(a); e != api.OK {
			t.Errorf("%d: Check: %d", i, e)
		}
	}
	for i, c := range broken() {
		if e := automaton.Check(c.a); e != c.e {
			t.Errorf("%d: Check of %v: %d, not %d", i, c.a, e, c.e)
		}
	}
}

// All functions return the error of Check first, and nothing else with it.
func TestErrorOfCheckFirst(t *testing.T) {
	none := func(a api.Automaton) bool {
		return len(a.Alphabet) == 0 && a.States == 0 && len(a.Marked) == 0 && len(a.Edges) == 0
	}
	for i, c := range broken() {
		if automaton.IsCanonical(c.a) {
			t.Errorf("%d: IsCanonical", i)
		}
		for _, f := range []func() (api.Automaton, api.Errno){
			func() (api.Automaton, api.Errno) { return automaton.Canonical(c.a) },
			func() (api.Automaton, api.Errno) { return automaton.Complete(c.a) },
			func() (api.Automaton, api.Errno) { return automaton.Closed(c.a) },
			func() (api.Automaton, api.Errno) { return automaton.Relabel(c.a, c.a.Alphabet) },
			func() (api.Automaton, api.Errno) { return automaton.Relabel(c.a, []int{77, 77, 77, 77, 77}) },
		} {
			if a, e := f(); e != c.e || !none(a) {
				t.Errorf("%d: %v, %d, not %d", i, a, e, c.e)
			}
		}
		for _, n := range []int{0, -1, 9999} {
			if s, is, e := automaton.Step(c.a, n, n); s != 0 || is || e != c.e {
				t.Errorf("%d: Step = %d, %t, %d", i, s, is, e)
			}
			if s, done, e := automaton.Run(c.a, n, []int{n}); s != 0 || done != 0 || e != c.e {
				t.Errorf("%d: Run = %d, %d, %d", i, s, done, e)
			}
			if l, e := automaton.Enabled(c.a, n); len(l) != 0 || e != c.e {
				t.Errorf("%d: Enabled = %v, %d", i, l, e)
			}
			if l, e := automaton.Words(c.a, n, n == 0); len(l) != 0 || e != c.e {
				t.Errorf("%d: Words = %v, %d", i, l, e)
			}
		}
		for _, w := range [][]int{nil, {3}, {-1}} {
			if is, e := automaton.Generates(c.a, w); is || e != c.e {
				t.Errorf("%d: Generates = %t, %d", i, is, e)
			}
			if is, e := automaton.Accepts(c.a, w); is || e != c.e {
				t.Errorf("%d: Accepts = %t, %d", i, is, e)
			}
		}
	}
}

// firstWords returns the first word, in order, that leads to each state that can be reached: words are made better by edges until none is.
func firstWords(a api.Automaton) map[int][]int {
	first := map[int][]int{}
	if a.States > 0 {
		first[0] = []int{}
	}
	for changed := true; changed; {
		changed = false
		for _, x := range a.Edges {
			w, reached := first[x.From]
			if !reached {
				continue
			}
			w = append(slices.Clone(w), x.Event)
			if old, is := first[x.To]; !is || before(w, old) {
				first[x.To], changed = w, true
			}
		}
	}
	return first
}

func before(a, b []int) bool {
	return len(a) < len(b) || len(a) == len(b) && slices.Compare(a, b) < 0
}

// form returns the canonical form: states that are found breadth first are in the order of their first words.
func form(a api.Automaton) api.Automaton {
	first := firstWords(a)
	var states []int
	for s := range first {
		states = append(states, s)
	}
	slices.SortFunc(states, func(s, t int) int {
		if before(first[s], first[t]) {
			return -1
		}
		return 1
	})
	c := api.Automaton{Alphabet: a.Alphabet, States: len(states)}
	for n, s := range states {
		if slices.Contains(a.Marked, s) {
			c.Marked = append(c.Marked, n)
		}
		for _, x := range a.Edges {
			if x.From == s {
				c.Edges = append(c.Edges, api.Edge{From: n, Event: x.Event, To: slices.Index(states, x.To)})
			}
		}
	}
	return c
}

// P3.2, and what P3.7 says of canonical forms
func TestCanonical(t *testing.T) {
	forms := 0
	for i, a := range somes() {
		want := form(a)
		c, e := automaton.Canonical(a)
		if e != api.OK || !automaton.Equal(c, want) {
			t.Fatalf("%d: Canonical of %v = %v, %d, not %v", i, a, c, e, want)
		}
		if again, e := automaton.Canonical(c); e != api.OK || !automaton.Equal(again, c) {
			t.Errorf("%d: Canonical of %v = %v, %d", i, c, again, e)
		}
		is := automaton.Equal(a, want)
		if automaton.IsCanonical(a) != is || !automaton.IsCanonical(c) {
			t.Errorf("%d: IsCanonical(%v) = %t", i, a, !is)
		}
		if is {
			forms++
		}
		for _, marked := range []bool{false, true} {
			p, e := automaton.Words(a, 3, marked)
			q, f := automaton.Words(c, 3, marked)
			if e != f || !slices.EqualFunc(p, q, slices.Equal[[]int]) {
				t.Errorf("%d: the languages of %v and %v", i, a, c)
			}
		}
	}
	if forms < 10 || forms > 300 {
		t.Errorf("%d automata are canonical", forms)
	}
	if c, e := automaton.Canonical(example()); e != api.OK || !automaton.Equal(c, exampleForm()) {
		t.Errorf("the first example: %v, %d", c, e)
	}
}

// P3.2: the reachable part alone counts, also of automata with as many states as possible.
func TestCanonicalOfLargeAutomata(t *testing.T) {
	a := ring(api.MaxStates)
	a.Marked = []int{0, api.MaxStates - 1}
	if c, e := automaton.Canonical(a); e != api.OK || !automaton.Equal(c, a) || !automaton.IsCanonical(a) {
		t.Errorf("Canonical of a ring: %d states, %d", c.States, e)
	}
	down := api.Automaton{Alphabet: []int{7}, States: api.MaxStates, Marked: []int{1}, Edges: []api.Edge{{From: 0, Event: 7, To: api.MaxStates - 1}}}
	for s := 2; s < api.MaxStates; s++ {
		down.Edges = append(down.Edges, api.Edge{From: s, Event: 7, To: s - 1})
	}
	want := chain(api.MaxStates)
	want.Alphabet, want.Marked = []int{7}, []int{api.MaxStates - 1}
	for i := range want.Edges {
		want.Edges[i].Event = 7
	}
	if c, e := automaton.Canonical(down); e != api.OK || !automaton.Equal(c, want) || automaton.IsCanonical(down) {
		t.Errorf("Canonical of a chain downwards: %d states, %d", c.States, e)
	}
	far := chain(api.MaxStates)
	far.Edges, far.Marked = far.Edges[1:], []int{0, 5}
	if c, e := automaton.Canonical(far); e != api.OK || !automaton.Equal(c, api.Automaton{Alphabet: []int{0}, States: 1, Marked: []int{0}}) {
		t.Errorf("Canonical without a way out: %v, %d", c, e)
	}
}

// P3.2
func TestEqual(t *testing.T) {
	if !automaton.Equal(api.Automaton{}, api.Automaton{Alphabet: []int{}, Marked: []int{}, Edges: []api.Edge{}}) || !automaton.Equal(api.Automaton{Alphabet: []int{}, Marked: []int{}, Edges: []api.Edge{}}, api.Automaton{}) {
		t.Error("nil and empty lists")
	}
	a := exampleForm()
	if !automaton.Equal(a, exampleForm()) || automaton.Equal(a, example()) {
		t.Error("the first example")
	}
	for i, change := range []func(b *api.Automaton){
		func(b *api.Automaton) { b.Alphabet = []int{0, 3} },
		func(b *api.Automaton) { b.Alphabet = []int{0} },
		func(b *api.Automaton) { b.Alphabet = nil },
		func(b *api.Automaton) { b.States = 3 },
		func(b *api.Automaton) { b.States = -2 },
		func(b *api.Automaton) { b.Marked = []int{0} },
		func(b *api.Automaton) { b.Marked = []int{0, 1} },
		func(b *api.Automaton) { b.Marked = nil },
		func(b *api.Automaton) { b.Edges = b.Edges[:2] },
		func(b *api.Automaton) { b.Edges = nil },
		func(b *api.Automaton) { b.Edges[1].From = 1 },
		func(b *api.Automaton) { b.Edges[1].Event = 3 },
		func(b *api.Automaton) { b.Edges[2].To = 1 },
		func(b *api.Automaton) { b.Edges[0], b.Edges[1] = b.Edges[1], b.Edges[0] },
	} {
		b := exampleForm()
		change(&b)
		if automaton.Equal(a, b) || automaton.Equal(b, a) || !automaton.Equal(b, b) {
			t.Errorf("%d: %v", i, b)
		}
	}
	for i, c := range broken() {
		if !automaton.Equal(c.a, c.a) {
			t.Errorf("%d: %v is not equal to itself", i, c.a)
		}
	}
}

// next looks for an edge in the whole list.
func next(a api.Automaton, state, event int) (int, bool) {
	for _, x := range a.Edges {
		if x.From == state && x.Event == event {
			return x.To, true
		}
	}
	return 0, false
}

// P3.3
func TestStepAndEnabled(t *testing.T) {
	for _, a := range somes() {
		for s := range a.States {
			var enabled []int
			for _, x := range a.Alphabet {
				to, possible := next(a, s, x)
				if n, is, e := automaton.Step(a, s, x); n != to || is != possible || e != api.OK {
					t.Errorf("Step(%v, %d, %d) = %d, %t, %d", a, s, x, n, is, e)
				}
				if possible {
					enabled = append(enabled, x)
				}
			}
			if l, e := automaton.Enabled(a, s); e != api.OK || !slices.Equal(l, enabled) {
				t.Errorf("Enabled(%v, %d) = %v, %d", a, s, l, e)
			}
		}
	}
}

// P3.3
func TestErrorsOfSteps(t *testing.T) {
	a := exampleForm()
	for _, c := range []struct {
		a        api.Automaton
		s, event int
		e        api.Errno
	}{
		{a, -1, 0, api.ErrRange},
		{a, 2, 0, api.ErrRange},
		{a, math.MaxInt, 0, api.ErrRange},
		{a, math.MinInt, 0, api.ErrRange},
		{a, 2, 1, api.ErrRange},
		{a, 0, 1, api.ErrUnknown},
		{a, 1, 3, api.ErrUnknown},
		{a, 0, -1, api.ErrUnknown},
		{a, 0, 32, api.ErrUnknown},
		{a, 0, math.MaxInt, api.ErrUnknown},
		{api.Automaton{}, 0, 0, api.ErrRange},
		{api.Automaton{Alphabet: []int{0}}, 0, 0, api.ErrRange},
		{api.Automaton{States: 1}, 0, 0, api.ErrUnknown},
	} {
		if n, is, e := automaton.Step(c.a, c.s, c.event); n != 0 || is || e != c.e {
			t.Errorf("Step(%d, %d) = %d, %t, %d", c.s, c.event, n, is, e)
		}
		if n, done, e := automaton.Run(c.a, c.s, []int{c.event}); n != 0 || done != 0 || e != c.e {
			t.Errorf("Run(%d, %d) = %d, %d, %d", c.s, c.event, n, done, e)
		}
		if l, e := automaton.Enabled(c.a, c.s); len(l) != 0 && e != api.OK || (e == api.ErrRange) != (c.e == api.ErrRange) {
			t.Errorf("Enabled(%d) = %v, %d", c.s, l, e)
		}
	}
}

// P3.3
func TestRun(t *testing.T) {
	a := exampleForm()
	for _, c := range []struct {
		from        int
		word        []int
		state, done int
		e           api.Errno
	}{
		{0, nil, 0, 0, api.OK},
		{1, nil, 1, 0, api.OK},
		{0, []int{0, 0}, 1, 1, api.OK},
		{0, []int{0, 2, 2, 0}, 1, 4, api.OK},
		{1, []int{2, 2}, 0, 2, api.OK},
		{1, []int{0, 2, 2}, 1, 0, api.OK},
		{0, []int{2, 2, 0, 0, 2, 2}, 1, 3, api.OK},
		{2, nil, 0, 0, api.ErrRange},
		{-1, nil, 0, 0, api.ErrRange},
		{2, []int{1}, 0, 0, api.ErrRange},
		{0, []int{0, 2, 1}, 0, 0, api.ErrUnknown},
		{0, []int{1, 0}, 0, 0, api.ErrUnknown},
		{0, []int{0, 0, 1}, 0, 0, api.ErrUnknown},
		{0, []int{0, -1}, 0, 0, api.ErrUnknown},
	} {
		if s, n, e := automaton.Run(a, c.from, c.word); s != c.state || n != c.done || e != c.e {
			t.Errorf("Run(%d, %v) = %d, %d, %d", c.from, c.word, s, n, e)
		}
	}
	if s, n, e := automaton.Run(ring(10), 3, make([]int, 20_005)); s != 8 || n != 20_005 || e != api.OK {
		t.Errorf("Run of a long word = %d, %d, %d", s, n, e)
	}
	if _, _, e := automaton.Run(api.Automaton{}, 0, nil); e != api.ErrRange {
		t.Errorf("Run in the empty automaton: %d", e)
	}
}

// follow returns the state to which a whole word leads.
func follow(a api.Automaton, word []int) (int, bool) {
	state, possible := 0, a.States > 0
	for _, x := range word {
		if !possible {
			return 0, false
		}
		state, possible = next(a, state, x)
	}
	return state, possible
}

// wordsOver returns all words over an alphabet with at most n events, in order.
func wordsOver(set []int, n int) [][]int {
	l, last := [][]int{{}}, [][]int{{}}
	for range n {
		var longer [][]int
		for _, w := range last {
			for _, x := range set {
				longer = append(longer, append(slices.Clone(w), x))
			}
		}
		l, last = append(l, longer...), longer
	}
	return l
}

// P3.4, and what P3.7 says of prefixes
func TestLanguages(t *testing.T) {
	for _, a := range somes() {
		most := 4
		if len(a.Alphabet) > 4 {
			most = 2
		}
		var generated, accepted [][]int
		for _, w := range wordsOver(a.Alphabet, most) {
			s, is := follow(a, w)
			marked := is && slices.Contains(a.Marked, s)
			if got, e := automaton.Generates(a, w); got != is || e != api.OK {
				t.Errorf("Generates(%v, %v) = %t, %d", a, w, got, e)
			}
			if got, e := automaton.Accepts(a, w); got != marked || e != api.OK {
				t.Errorf("Accepts(%v, %v) = %t, %d", a, w, got, e)
			}
			if is {
				generated = append(generated, w)
			}
			if marked {
				accepted = append(accepted, w)
			}
		}
		if l, e := automaton.Words(a, most, false); e != api.OK || !slices.EqualFunc(l, generated, slices.Equal[[]int]) {
			t.Errorf("Words(%v) = %v, %d, not %v", a, l, e, generated)
		}
		if l, e := automaton.Words(a, most, true); e != api.OK || !slices.EqualFunc(l, accepted, slices.Equal[[]int]) {
			t.Errorf("marked Words(%v) = %v, %d, not %v", a, l, e, accepted)
		}
		for _, w := range generated {
			for n := range w {
				if is, e := automaton.Generates(a, w[:n]); !is || e != api.OK {
					t.Errorf("%v has the word %v, but not its prefix %v", a, w, w[:n])
				}
			}
		}
	}
}

// P3.4
func TestWordsOfOtherEvents(t *testing.T) {
	a := allWords(2)
	a.Marked = []int{0}
	for _, w := range [][]int{{2}, {-1}, {0, 1, 2}, {31}, {32}, {math.MaxInt}, {5, 0}} {
		if is, e := automaton.Generates(a, w); is || e != api.OK {
			t.Errorf("Generates(%v) = %t, %d", w, is, e)
		}
		if is, e := automaton.Accepts(a, w); is || e != api.OK {
			t.Errorf("Accepts(%v) = %t, %d", w, is, e)
		}
	}
	long := make([]int, 3*api.MaxWord)
	if is, e := automaton.Generates(a, long); !is || e != api.OK {
		t.Errorf("Generates of a long word = %t, %d", is, e)
	}
	if is, e := automaton.Accepts(a, long); !is || e != api.OK {
		t.Errorf("Accepts of a long word = %t, %d", is, e)
	}
	for _, w := range [][]int{nil, {0}, {3}} {
		p, e := automaton.Generates(api.Automaton{Alphabet: []int{3}}, w)
		q, f := automaton.Accepts(api.Automaton{Alphabet: []int{3}}, w)
		if p || q || e != api.OK || f != api.OK {
			t.Errorf("the empty automaton has %v: %t, %t, %d, %d", w, p, q, e, f)
		}
	}
}

// P3.4
func TestLimitsOfWords(t *testing.T) {
	for i, c := range []struct {
		a    api.Automaton
		most int
		n    int
		e    api.Errno
	}{
		{exampleForm(), 0, 1, api.OK},
		{exampleForm(), 1, 3, api.OK},
		{exampleForm(), 2, 6, api.OK},
		{exampleForm(), -1, 0, api.ErrRange},
		{exampleForm(), math.MinInt, 0, api.ErrRange},
		{exampleForm(), api.MaxWord + 1, 0, api.ErrRange},
		{exampleForm(), math.MaxInt, 0, api.ErrRange},
		{exampleForm(), api.MaxWord, 0, api.ErrLimit},
		{api.Automaton{}, 0, 0, api.OK},
		{api.Automaton{}, api.MaxWord, 0, api.OK},
		{api.Automaton{}, -1, 0, api.ErrRange},
		{api.Automaton{}, api.MaxWord + 1, 0, api.ErrRange},
		{api.Automaton{States: 1}, api.MaxWord, 1, api.OK},
		{chain(10), api.MaxWord, 10, api.OK},
		{chain(automaton.MaxWords), api.MaxWord, automaton.MaxWords, api.OK},
		{chain(automaton.MaxWords + 1), api.MaxWord, 0, api.ErrLimit},
		{chain(automaton.MaxWords + 1), automaton.MaxWords - 1, automaton.MaxWords, api.OK},
		{chain(automaton.MaxWords + 1), automaton.MaxWords, 0, api.ErrLimit},
		{ring(1), automaton.MaxWords - 1, automaton.MaxWords, api.OK},
		{ring(1), automaton.MaxWords, 0, api.ErrLimit},
		{allWords(2), 9, 1023, api.OK},
		{allWords(2), 10, 0, api.ErrLimit},
		{allWords(31), 1, 32, api.OK},
		{allWords(31), 2, 993, api.OK},
		{allWords(32), 2, 0, api.ErrLimit},
		{allWords(32), api.MaxWord, 0, api.ErrLimit},
	} {
		l, e := automaton.Words(c.a, c.most, false)
		if len(l) != c.n || e != c.e {
			t.Errorf("%d: %d words, %d, not %d, %d", i, len(l), e, c.n, c.e)
		}
		for j := 1; j < len(l); j++ {
			if !before(l[j-1], l[j]) {
				t.Errorf("%d: %v comes before %v", i, l[j-1], l[j])
			}
		}
		// The limit is that of the generated language, though no word is marked.
		c.a.Marked = nil
		if l, e := automaton.Words(c.a, c.most, true); len(l) != 0 || e != c.e {
			t.Errorf("%d: %d marked words, %d", i, len(l), e)
		}
		if c.e == api.OK && len(l) > 0 && c.a.States > 0 {
			c.a.Marked = []int{0}
			if l, e := automaton.Words(c.a, c.most, true); len(l) == 0 || len(l[0]) != 0 || e != api.OK {
				t.Errorf("%d: the empty word is marked: %v, %d", i, l, e)
			}
		}
	}
}

// P3.4: the chapter's second example.
func TestExampleOfWords(t *testing.T) {
	all := [][]int{{}, {0}, {2}, {0, 2}, {2, 0}, {2, 2}}
	if l, e := automaton.Words(exampleForm(), 2, false); e != api.OK || !slices.EqualFunc(l, all, slices.Equal[[]int]) {
		t.Errorf("Words = %v, %d", l, e)
	}
	if l, e := automaton.Words(exampleForm(), 2, true); e != api.OK || !slices.EqualFunc(l, [][]int{{0}, {2, 0}}, slices.Equal[[]int]) {
		t.Errorf("Words = %v, %d", l, e)
	}
}

// replaced returns an automaton with other events, in canonical form.
func replaced(a api.Automaton, to []int) api.Automaton {
	b := api.Automaton{Alphabet: slices.Clone(to), States: a.States, Marked: a.Marked}
	slices.Sort(b.Alphabet)
	for s := range a.States {
		for _, y := range b.Alphabet {
			if n, possible := next(a, s, a.Alphabet[slices.Index(to, y)]); possible {
				b.Edges = append(b.Edges, api.Edge{From: s, Event: y, To: n})
			}
		}
	}
	return form(b)
}

// P3.5, and what P3.7 says of relabelling
func TestRelabel(t *testing.T) {
	r := rand.New(rand.NewSource(11))
	for _, a := range somes() {
		c, _ := automaton.Canonical(a)
		back := slices.Clone(a.Alphabet)
		for _, to := range [][]int{a.Alphabet, r.Perm(api.MaxEvents)[:len(a.Alphabet)], r.Perm(len(a.Alphabet))} {
			b, e := automaton.Relabel(a, to)
			if want := replaced(a, to); e != api.OK || !automaton.Equal(b, want) {
				t.Fatalf("Relabel(%v, %v) = %v, %d, not %v", a, to, b, e, want)
			}
			inverse := make([]int, len(to))
			for i, x := range b.Alphabet {
				inverse[i] = back[slices.Index(to, x)]
			}
			if again, e := automaton.Relabel(b, inverse); e != api.OK || !automaton.Equal(again, c) {
				t.Errorf("Relabel(%v, %v) and back = %v, %d", a, to, again, e)
			}
		}
	}
	want := api.Automaton{Alphabet: []int{1, 3}, States: 2, Marked: []int{1}, Edges: []api.Edge{{From: 0, Event: 1, To: 0}, {From: 0, Event: 3, To: 1}, {From: 1, Event: 1, To: 0}}}
	if b, e := automaton.Relabel(exampleForm(), []int{3, 1}); e != api.OK || !automaton.Equal(b, want) {
		t.Errorf("the fourth example: %v, %d", b, e)
	}
	fork := api.Automaton{Alphabet: []int{0, 1}, States: 3, Marked: []int{1}, Edges: []api.Edge{{From: 0, Event: 0, To: 1}, {From: 0, Event: 1, To: 2}}}
	want = api.Automaton{Alphabet: []int{0, 1}, States: 3, Marked: []int{2}, Edges: []api.Edge{{From: 0, Event: 0, To: 1}, {From: 0, Event: 1, To: 2}}}
	if b, e := automaton.Relabel(fork, []int{1, 0}); e != api.OK || !automaton.Equal(b, want) {
		t.Errorf("exchanged events: %v, %d", b, e)
	}
}

// P3.5
func TestErrorsOfRelabel(t *testing.T) {
	three := api.Automaton{Alphabet: []int{1, 2, 3}, States: 1}
	for _, c := range []struct {
		a  api.Automaton
		to []int
		e  api.Errno
	}{
		{three, nil, api.ErrSize},
		{three, []int{1, 2}, api.ErrSize},
		{three, []int{1, 2, 3, 4}, api.ErrSize},
		{three, []int{99, 99}, api.ErrSize},
		{api.Automaton{}, []int{0}, api.ErrSize},
		{three, []int{1, 2, 32}, api.ErrRange},
		{three, []int{-1, 2, 3}, api.ErrRange},
		{three, []int{1, 2, math.MaxInt}, api.ErrRange},
		{three, []int{1, 2, 1}, api.ErrDuplicate},
		{three, []int{7, 7, 3}, api.ErrDuplicate},
		{three, []int{7, 3, 3}, api.ErrDuplicate},
		{three, []int{7, 7, 32}, api.ErrDuplicate},
		{three, []int{7, 32, 7}, api.ErrRange},
		{three, []int{32, 32, 7}, api.ErrRange},
		{three, []int{-1, -1, -1}, api.ErrRange},
		{three, []int{31, 0, 30}, api.OK},
		{api.Automaton{}, nil, api.OK},
	} {
		a, e := automaton.Relabel(c.a, c.to)
		if e != c.e || e != api.OK && !automaton.Equal(a, api.Automaton{}) {
			t.Errorf("Relabel(%v, %v) = %v, %d", c.a, c.to, a, e)
		}
	}
	if a, e := automaton.Relabel(api.Automaton{Alphabet: []int{4, 6}}, []int{9, 8}); e != api.OK || !automaton.Equal(a, api.Automaton{Alphabet: []int{8, 9}}) {
		t.Errorf("Relabel of the empty automaton = %v, %d", a, e)
	}
}

// completed returns the canonical form with the further state, which is added before the form is made.
func completed(a api.Automaton) api.Automaton {
	b := api.Automaton{Alphabet: a.Alphabet, States: a.States + 1, Marked: a.Marked}
	for s := range b.States {
		for _, x := range a.Alphabet {
			to, possible := next(a, s, x)
			if !possible {
				to = a.States
			}
			b.Edges = append(b.Edges, api.Edge{From: s, Event: x, To: to})
		}
	}
	return form(b)
}

// P3.6, and what P3.7 says of complete automata
func TestComplete(t *testing.T) {
	for _, a := range somes() {
		c, e := automaton.Complete(a)
		if want := completed(a); e != api.OK || !automaton.Equal(c, want) {
			t.Fatalf("Complete(%v) = %v, %d, not %v", a, c, e, want)
		}
		for _, w := range wordsOver(a.Alphabet, 2) {
			generated, _ := automaton.Generates(c, w)
			before, _ := automaton.Accepts(a, w)
			after, _ := automaton.Accepts(c, w)
			if !generated || before != after {
				t.Errorf("the word %v of Complete(%v): %t, %t, %t", w, a, generated, before, after)
			}
		}
	}
	want := exampleForm()
	want.States = 3
	want.Edges = []api.Edge{{From: 0, Event: 0, To: 1}, {From: 0, Event: 2, To: 0}, {From: 1, Event: 0, To: 2}, {From: 1, Event: 2, To: 0}, {From: 2, Event: 0, To: 2}, {From: 2, Event: 2, To: 2}}
	if c, e := automaton.Complete(exampleForm()); e != api.OK || !automaton.Equal(c, want) {
		t.Errorf("the third example: %v, %d", c, e)
	}
	if c, e := automaton.Complete(api.Automaton{}); e != api.OK || !automaton.Equal(c, api.Automaton{States: 1}) {
		t.Errorf("Complete of the empty automaton = %v, %d", c, e)
	}
	want = api.Automaton{Alphabet: []int{3, 31}, States: 1, Edges: []api.Edge{{Event: 3}, {Event: 31}}}
	if c, e := automaton.Complete(api.Automaton{Alphabet: []int{3, 31}}); e != api.OK || !automaton.Equal(c, want) {
		t.Errorf("Complete of the empty automaton = %v, %d", c, e)
	}
	if c, e := automaton.Complete(allWords(4)); e != api.OK || !automaton.Equal(c, allWords(4)) {
		t.Errorf("Complete without a missing edge = %v, %d", c, e)
	}
}

// P3.6
func TestLimitOfComplete(t *testing.T) {
	if c, e := automaton.Complete(ring(api.MaxStates)); e != api.OK || !automaton.Equal(c, ring(api.MaxStates)) {
		t.Errorf("a complete automaton: %d states, %d", c.States, e)
	}
	if c, e := automaton.Complete(chain(api.MaxStates)); e != api.ErrLimit || !automaton.Equal(c, api.Automaton{}) {
		t.Errorf("one edge is missing: %d states, %d", c.States, e)
	}
	if c, e := automaton.Complete(chain(api.MaxStates - 1)); e != api.OK || c.States != api.MaxStates || len(c.Edges) != api.MaxStates || c.Edges[api.MaxStates-1].To != api.MaxStates-1 {
		t.Errorf("room for one more: %d states, %d", c.States, e)
	}
	far := chain(api.MaxStates)
	far.Edges = slices.Delete(far.Edges, 5, 6)
	if c, e := automaton.Complete(far); e != api.OK || c.States != 7 || len(c.Edges) != 7 {
		t.Errorf("most states are not reached: %d states, %d", c.States, e)
	}
}

// P3.6, and what P3.7 says of closed automata
func TestClosed(t *testing.T) {
	for _, a := range somes() {
		c, e := automaton.Closed(a)
		want := form(a)
		want.Marked = nil
		for s := range want.States {
			want.Marked = append(want.Marked, s)
		}
		if e != api.OK || !automaton.Equal(c, want) {
			t.Fatalf("Closed(%v) = %v, %d", a, c, e)
		}
		generated, _ := automaton.Words(a, 2, false)
		accepted, _ := automaton.Words(c, 2, true)
		if !slices.EqualFunc(generated, accepted, slices.Equal[[]int]) {
			t.Errorf("Closed(%v) accepts %v, not %v", a, accepted, generated)
		}
	}
	if c, e := automaton.Closed(api.Automaton{Alphabet: []int{5}}); e != api.OK || !automaton.Equal(c, api.Automaton{Alphabet: []int{5}}) {
		t.Errorf("Closed of the empty automaton = %v, %d", c, e)
	}
}

// copied returns an automaton in new memory, with spoilt elements beyond the lengths of the lists.
func copied(a api.Automaton) api.Automaton {
	longer := func(l []int) []int { return append(slices.Clone(l), -8, -8, -8)[:len(l)] }
	edges := append(slices.Clone(a.Edges), api.Edge{From: -8}, api.Edge{From: -8})[:len(a.Edges)]
	return api.Automaton{Alphabet: longer(a.Alphabet), States: a.States, Marked: longer(a.Marked), Edges: edges}
}

// spoil writes into all the memory of an automaton.
func spoil(a api.Automaton) {
	for _, l := range [][]int{a.Alphabet[:cap(a.Alphabet)], a.Marked[:cap(a.Marked)]} {
		for i := range l {
			l[i] = -99
		}
	}
	edges := a.Edges[:cap(a.Edges)]
	for i := range edges {
		edges[i] = api.Edge{From: -99, Event: -99, To: -99}
	}
}

// Arguments stay as they are, also beyond their lengths, and results are new.
func TestArgumentsStay(t *testing.T) {
	for _, original := range somes() {
		a, to := copied(original), slices.Clone(original.Alphabet)
		slices.Reverse(to)
		saved := slices.Clone(to)
		for i, f := range []func() (api.Automaton, api.Errno){
			func() (api.Automaton, api.Errno) { return automaton.Canonical(a) },
			func() (api.Automaton, api.Errno) { return automaton.Complete(a) },
			func() (api.Automaton, api.Errno) { return automaton.Closed(a) },
			func() (api.Automaton, api.Errno) { return automaton.Relabel(a, to) },
		} {
			b, e := f()
			again, _ := f()
			want := copied(again)
			if e != api.OK || !automaton.Equal(b, again) {
				t.Fatalf("%d: %v, %d and %v", i, b, e, again)
			}
			spoil(b)
			whole := func(l []int) []int { return l[:len(l)+3][len(l):] }
			if !automaton.Equal(a, original) || !slices.Equal(to, saved) || !automaton.Equal(again, want) || !slices.Equal(whole(a.Alphabet), []int{-8, -8, -8}) || !slices.Equal(whole(a.Marked), []int{-8, -8, -8}) || a.Edges[:len(a.Edges)+2][len(a.Edges)].From != -8 {
				t.Fatalf("%d: %v has become %v, and %v %v", i, original, a, saved, to)
			}
		}
		l, _ := automaton.Words(a, 2, false)
		want, _ := automaton.Words(a, 2, false)
		for i := range l {
			w := l[i][:cap(l[i])]
			for j := range w {
				w[j] = -99
			}
			l[i] = want[i]
			if !slices.EqualFunc(l, want, slices.Equal[[]int]) || !automaton.Equal(a, original) {
				t.Fatalf("the words of %v share memory", original)
			}
		}
	}
}

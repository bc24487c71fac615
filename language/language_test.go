package language_test

import (
	"fmt"
	"math"
	"math/rand"
	"slices"
	"testing"

	"overseer/alphabet"
	"overseer/api"
	"overseer/automaton"
	"overseer/language"
	"overseer/minimal"
	"overseer/reach"
)

type (
	edges = []api.Edge
	ints  = []int
)

var kinds = [2]int{language.Generated, language.Marked}

// even marks the words with an even number of the event 0, odd those with an odd number, and every all words of some events.
func even() api.Automaton {
	return api.Automaton{Alphabet: ints{0}, States: 2, Marked: ints{0}, Edges: edges{{From: 0, Event: 0, To: 1}, {From: 1, Event: 0, To: 0}}}
}

func odd() api.Automaton {
	a := even()
	a.Marked = ints{1}
	return a
}

func every(events ...int) api.Automaton {
	a := api.Automaton{Alphabet: events, States: 1, Marked: ints{0}}
	for _, x := range events {
		a.Edges = append(a.Edges, api.Edge{From: 0, Event: x, To: 0})
	}
	return a
}

// single marks one word alone.
func single(events []int, word ...int) api.Automaton {
	a := api.Automaton{Alphabet: events, States: len(word) + 1, Marked: ints{len(word)}}
	for s, x := range word {
		a.Edges = append(a.Edges, api.Edge{From: s, Event: x, To: s + 1})
	}
	return a
}

// upTo returns the numbers below n.
func upTo(n int) []int {
	var l []int
	for x := range n {
		l = append(l, x)
	}
	return l
}

// chain marks the words of event 0 that have fewer than n events, and ring those whose length can be divided by n.
func chain(n int) api.Automaton {
	a := api.Automaton{Alphabet: ints{0}, States: n, Marked: upTo(n)}
	for s := range n - 1 {
		a.Edges = append(a.Edges, api.Edge{From: s, Event: 0, To: s + 1})
	}
	return a
}

func ring(n int) api.Automaton {
	a := chain(n)
	a.Marked = ints{0}
	a.Edges = append(a.Edges, api.Edge{From: n - 1, Event: 0, To: 0})
	return a
}

// some draws the sequence of numbers below n, each with the chance of one in few.
func some(r *rand.Rand, n, few int) []int {
	var set []int
	for x := range n {
		if r.Intn(few) == 0 {
			set = append(set, x)
		}
	}
	return set
}

// draw draws an automaton with some of the first events.
func draw(r *rand.Rand, states, events int) api.Automaton {
	a := api.Automaton{Alphabet: some(r, events, 1+r.Intn(2)), States: states - r.Intn(1+r.Intn(states+1))}
	a.Marked = some(r, a.States, 1+r.Intn(6))
	dense := 2 + r.Intn(5)
	for s := range a.States {
		for _, x := range a.Alphabet {
			if r.Intn(6) < dense {
				a.Edges = append(a.Edges, api.Edge{From: s, Event: x, To: r.Intn(a.States)})
			}
		}
	}
	return a
}

// part draws an automaton whose languages are parts of those of a: some edges and marks are missing.
func part(r *rand.Rand, a api.Automaton) api.Automaton {
	b := api.Automaton{Alphabet: a.Alphabet, States: a.States}
	few := 1 + r.Intn(8)
	for _, s := range a.Marked {
		if r.Intn(few+1) > 0 {
			b.Marked = append(b.Marked, s)
		}
	}
	for _, x := range a.Edges {
		if r.Intn(few+2) > 0 {
			b.Edges = append(b.Edges, x)
		}
	}
	return b
}

type couple struct{ a, b api.Automaton }

// drawn returns couples of special automata, and of many small ones that are drawn in a fixed way.
func drawn(r *rand.Rand, n int) []couple {
	special := []api.Automaton{{}, {Alphabet: ints{0, 31}}, {States: 1}, {States: 2, Marked: ints{0, 1}}, even(), odd(), every(0), every(0, 1), single(ints{0, 1}, 0, 1), chain(3), ring(3)}
	var l []couple
	for _, a := range special {
		for _, b := range special {
			l = append(l, couple{a, b})
		}
	}
	for range n {
		a, b := draw(r, 5, 3), draw(r, 4, 3)
		switch r.Intn(4) {
		case 0:
			a = part(r, b)
		case 1:
			b = part(r, a)
		}
		l = append(l, couple{a, b})
	}
	return l
}

// lost is where a word leads that is not possible.
const lost = -1

func initialOf(a api.Automaton) int {
	if a.States == 0 {
		return lost
	}
	return 0
}

func step(a api.Automaton, state, event int) int {
	i := slices.IndexFunc(a.Edges, func(x api.Edge) bool { return x.From == state && x.Event == event })
	if i < 0 {
		return lost
	}
	return a.Edges[i].To
}

func belongs(a api.Automaton, kind, state int) bool {
	if kind == language.Generated {
		return state != lost
	}
	return slices.Contains(a.Marked, state)
}

func stateAfter(a api.Automaton, word []int) int {
	s := initialOf(a)
	for _, x := range word {
		s = step(a, s, x)
	}
	return s
}

func has(a api.Automaton, kind int, word []int) bool { return belongs(a, kind, stateAfter(a, word)) }

// words returns all words over some events up to a length, in their order.
func words(events []int, most int) [][]int {
	l := [][]int{nil}
	for i := 0; i < len(l) && len(l[i]) < most; i++ {
		for _, x := range events {
			l = append(l, append(slices.Clone(l[i]), x))
		}
	}
	return l
}

// first returns the first of all words of both alphabets for which is is true. Words that lead to the same states as an earlier one need not be continued.
func first(a, b api.Automaton, is func(word []int) bool) ([]int, bool) {
	events := alphabet.Union(a.Alphabet, b.Alphabet)
	known := map[[2]int]bool{}
	l := [][]int{nil}
	for i := 0; i < len(l); i++ {
		if is(l[i]) {
			return l[i], true
		}
		states := [2]int{stateAfter(a, l[i]), stateAfter(b, l[i])}
		if known[states] {
			continue
		}
		known[states] = true
		for _, x := range events {
			l = append(l, append(slices.Clone(l[i]), x))
		}
	}
	return nil, false
}

// minimalOf returns the minimal automaton of a language, by its definition: what may follow a word depends on the key of the word alone; keys are divided as long as their events lead to different classes; keys from which no marked one can be reached are left out.
func minimalOf[K comparable](events []int, start K, step func(K, int) K, marked func(K) bool) api.Automaton {
	keys := []K{start}
	for i := 0; i < len(keys); i++ {
		for _, x := range events {
			if next := step(keys[i], x); !slices.Contains(keys, next) {
				keys = append(keys, next)
			}
		}
	}
	alive := make(map[K]bool)
	class := make(map[K]string)
	for _, k := range keys {
		alive[k], class[k] = marked(k), fmt.Sprint(marked(k))
	}
	for range keys {
		numbers := make(map[string]int)
		next := make(map[K]string)
		for _, k := range keys {
			s := class[k]
			for _, x := range events {
				s += "," + class[step(k, x)]
				alive[k] = alive[k] || alive[step(k, x)]
			}
			if _, known := numbers[s]; !known {
				numbers[s] = len(numbers)
			}
			next[k] = fmt.Sprint(numbers[s])
		}
		class = next
	}
	a := api.Automaton{Alphabet: events}
	var order []K
	numberOf := func(k K) int {
		if i := slices.IndexFunc(order, func(o K) bool { return class[o] == class[k] }); i >= 0 {
			return i
		}
		order = append(order, k)
		return len(order) - 1
	}
	if alive[start] {
		numberOf(start)
	}
	for n := 0; n < len(order); n++ {
		if marked(order[n]) {
			a.Marked = append(a.Marked, n)
		}
		for _, x := range events {
			if next := step(order[n], x); alive[next] {
				a.Edges = append(a.Edges, api.Edge{From: n, Event: x, To: numberOf(next)})
			}
		}
	}
	a.States = len(order)
	return a
}

// combined is the minimal automaton of the words that are chosen by to which marked languages they belong.
func combined(a, b api.Automaton, choose func(inA, inB bool) bool) api.Automaton {
	return minimalOf(alphabet.Union(a.Alphabet, b.Alphabet), [2]int{initialOf(a), initialOf(b)},
		func(k [2]int, x int) [2]int { return [2]int{step(a, k[0], x), step(b, k[1], x)} },
		func(k [2]int) bool {
			return choose(belongs(a, language.Marked, k[0]), belongs(b, language.Marked, k[1]))
		})
}

// P9.1
func TestIncludedAndEqual(t *testing.T) {
	is, isNot, long := 0, 0, 0
	for _, c := range drawn(rand.New(rand.NewSource(1)), 1500) {
		for _, kind := range kinds {
			for _, f := range []struct {
				name  string
				call  func(a, b api.Automaton, kind int) ([]int, bool, api.Errno)
				wrong func(inA, inB bool) bool
			}{
				{"Included", language.Included, func(inA, inB bool) bool { return inA && !inB }},
				{"Equal", language.Equal, func(inA, inB bool) bool { return inA != inB }},
			} {
				want, found := first(c.a, c.b, func(w []int) bool { return f.wrong(has(c.a, kind, w), has(c.b, kind, w)) })
				w, yes, e := f.call(c.a, c.b, kind)
				if e != api.OK || yes == found || !slices.Equal(w, want) {
					t.Errorf("%s(%v, %v, %d) = %v, %t, %d, not %v, %t", f.name, c.a, c.b, kind, w, yes, e, want, !found)
				}
				if yes && kind == language.Marked && len(c.a.Marked) > 0 && !automaton.Equal(c.a, c.b) {
					is++
				} else if !yes {
					isNot++
				}
				if len(w) > 2 {
					long++
				}
			}
		}
	}
	if is < 300 || isNot < 300 || long < 100 {
		t.Errorf("only %d pairs are included or equal, %d are not, %d witnesses are long", is, isNot, long)
	}
}

// P9.1: the same by all words, up to a length.
func TestIncludedByAllWords(t *testing.T) {
	r := rand.New(rand.NewSource(2))
	l := words(ints{0, 1, 2}, 5)
	for range 300 {
		a, b := draw(r, 3, 3), draw(r, 3, 3)
		for _, kind := range kinds {
			i := slices.IndexFunc(l, func(w []int) bool { return has(a, kind, w) && !has(b, kind, w) })
			if w, included, e := language.Included(a, b, kind); e != api.OK || i >= 0 && (included || !slices.Equal(w, l[i])) || i < 0 && !included && len(w) < 6 {
				t.Errorf("Included(%v, %v, %d) = %v, %t, %d", a, b, kind, w, included, e)
			}
			i = slices.IndexFunc(l, func(w []int) bool { return has(a, kind, w) != has(b, kind, w) })
			if w, equal, e := language.Equal(a, b, kind); e != api.OK || i >= 0 && (equal || !slices.Equal(w, l[i])) || i < 0 && !equal && len(w) < 6 {
				t.Errorf("Equal(%v, %v, %d) = %v, %t, %d", a, b, kind, w, equal, e)
			}
		}
	}
}

// P9.1: the chapter's example; empty languages; events that only one automaton has; states that cannot be reached.
func TestExamplesOfIncluded(t *testing.T) {
	unmarked := api.Automaton{Alphabet: ints{0}, States: 1}
	unreached := api.Automaton{Alphabet: ints{0}, States: 2, Marked: ints{1}, Edges: edges{{From: 1, Event: 0, To: 1}}}
	for i, c := range []struct {
		a, b       api.Automaton
		kind       int
		word       []int
		included   bool
		difference []int
		equal      bool
	}{
		{even(), every(0), language.Marked, nil, true, ints{0}, false},
		{every(0), even(), language.Marked, ints{0}, false, ints{0}, false},
		{every(0), even(), language.Generated, nil, true, nil, true},
		{api.Automaton{}, unmarked, language.Generated, nil, true, nil, false},
		{unmarked, api.Automaton{}, language.Generated, nil, false, nil, false},
		{unmarked, api.Automaton{}, language.Marked, nil, true, nil, true},
		{api.Automaton{}, api.Automaton{Alphabet: ints{7}}, language.Generated, nil, true, nil, true},
		{unreached, unmarked, language.Generated, nil, true, nil, true},
		{unreached, unmarked, language.Marked, nil, true, nil, true},
		{every(0, 3), every(0), language.Generated, ints{3}, false, ints{3}, false},
		{every(0), every(0, 3), language.Marked, nil, true, ints{3}, false},
		{every(0), every(3), language.Marked, ints{0}, false, ints{0}, false},
		{every(3), every(0), language.Marked, ints{3}, false, ints{0}, false},
		{single(ints{0, 1}, 0, 1), single(ints{1}, 1), language.Generated, ints{0}, false, ints{0}, false},
		{single(ints{0, 1}, 0, 1), single(ints{1}, 1), language.Marked, ints{0, 1}, false, ints{1}, false},
		{single(ints{0, 1}, 1, 0), single(ints{0, 1}, 0, 1), language.Marked, ints{1, 0}, false, ints{0, 1}, false},
		{every(31), every(30, 31), language.Marked, nil, true, ints{30}, false},
	} {
		if w, is, e := language.Included(c.a, c.b, c.kind); e != api.OK || is != c.included || !slices.Equal(w, c.word) {
			t.Errorf("%d: Included = %v, %t, %d", i, w, is, e)
		}
		if w, is, e := language.Equal(c.a, c.b, c.kind); e != api.OK || is != c.equal || !slices.Equal(w, c.difference) {
			t.Errorf("%d: Equal = %v, %t, %d", i, w, is, e)
		}
		if w, is, e := language.Equal(c.b, c.a, c.kind); e != api.OK || is != c.equal || !slices.Equal(w, c.difference) {
			t.Errorf("%d: Equal of the other order = %v, %t, %d", i, w, is, e)
		}
	}
}

// P9.1 and P9.4
func TestEmptyAndLeast(t *testing.T) {
	empty, long := 0, 0
	for _, c := range drawn(rand.New(rand.NewSource(3)), 1000) {
		for _, kind := range kinds {
			want, found := first(c.a, api.Automaton{}, func(w []int) bool { return has(c.a, kind, w) })
			if is, e := language.Empty(c.a, kind); e != api.OK || is == found {
				t.Errorf("Empty(%v, %d) = %t, %d", c.a, kind, is, e)
			}
			if w, is, e := language.Least(c.a, kind); e != api.OK || is != found || !slices.Equal(w, want) {
				t.Errorf("Least(%v, %d) = %v, %t, %d, not %v", c.a, kind, w, is, e, want)
			}
			if !found {
				empty++
			} else if len(want) > 1 {
				long++
			}
		}
	}
	if empty < 100 || long < 30 {
		t.Errorf("only %d languages are empty, %d least words are long", empty, long)
	}
}

// P9.2
func TestCombinations(t *testing.T) {
	large, none := 0, 0
	for _, c := range drawn(rand.New(rand.NewSource(4)), 400) {
		for _, f := range []struct {
			name   string
			call   func(a, b api.Automaton) (api.Automaton, api.Errno)
			choose func(inA, inB bool) bool
		}{
			{"Intersect", language.Intersect, func(inA, inB bool) bool { return inA && inB }},
			{"Union", language.Union, func(inA, inB bool) bool { return inA || inB }},
			{"Difference", language.Difference, func(inA, inB bool) bool { return inA && !inB }},
		} {
			want := combined(c.a, c.b, f.choose)
			got, e := f.call(c.a, c.b)
			if e != api.OK || !automaton.Equal(got, want) || !automaton.IsCanonical(got) {
				t.Errorf("%s(%v, %v) = %v, %d, not %v", f.name, c.a, c.b, got, e, want)
			}
			if want.States > 4 {
				large++
			} else if want.States == 0 {
				none++
			}
		}
		want := combined(c.a, api.Automaton{}, func(inA, _ bool) bool { return !inA })
		if got, e := language.Complement(c.a); e != api.OK || !automaton.Equal(got, want) {
			t.Errorf("Complement(%v) = %v, %d, not %v", c.a, got, e, want)
		}
	}
	if large < 100 || none < 100 {
		t.Errorf("only %d results are large, %d have no states", large, none)
	}
}

// P9.2: the chapter's example; alphabets that differ; empty languages.
func TestExamplesOfCombinations(t *testing.T) {
	empty := func(events ...int) api.Automaton { return api.Automaton{Alphabet: events} }
	for i, c := range []struct {
		call func(a, b api.Automaton) (api.Automaton, api.Errno)
		a, b api.Automaton
		want api.Automaton
	}{
		{language.Difference, every(0), even(), odd()},
		{language.Difference, even(), every(0), empty(0)},
		{language.Union, even(), odd(), every(0)},
		{language.Intersect, even(), odd(), empty(0)},
		{language.Intersect, every(0, 2), every(0, 1), api.Automaton{Alphabet: ints{0, 1, 2}, States: 1, Marked: ints{0}, Edges: edges{{From: 0, Event: 0, To: 0}}}},
		{language.Union, empty(0, 31), every(), api.Automaton{Alphabet: ints{0, 31}, States: 1, Marked: ints{0}}},
		{language.Union, api.Automaton{}, api.Automaton{}, api.Automaton{}},
		{language.Difference, every(1), empty(0), api.Automaton{Alphabet: ints{0, 1}, States: 1, Marked: ints{0}, Edges: edges{{From: 0, Event: 1, To: 0}}}},
		{language.Union, single(ints{0, 1}, 0, 1), single(ints{0, 1}, 1, 1), api.Automaton{Alphabet: ints{0, 1}, States: 3, Marked: ints{2}, Edges: edges{{From: 0, Event: 0, To: 1}, {From: 0, Event: 1, To: 1}, {From: 1, Event: 1, To: 2}}}},
	} {
		if got, e := c.call(c.a, c.b); e != api.OK || !automaton.Equal(got, c.want) {
			t.Errorf("%d: %v, %d", i, got, e)
		}
	}
	for i, c := range []struct{ a, want api.Automaton }{
		{even(), odd()},
		{every(0, 5), empty(0, 5)},
		{empty(0, 5), every(0, 5)},
		{empty(), every()},
		{every(), empty()},
		{chain(2), api.Automaton{Alphabet: ints{0}, States: 3, Marked: ints{2}, Edges: edges{{From: 0, Event: 0, To: 1}, {From: 1, Event: 0, To: 2}, {From: 2, Event: 0, To: 2}}}},
	} {
		if got, e := language.Complement(c.a); e != api.OK || !automaton.Equal(got, c.want) {
			t.Errorf("%d: Complement = %v, %d", i, got, e)
		}
	}
}

// P9.2: products with as many states as there may be, and with one more. A chain is completed by one state, which counts.
func TestLimitsOfCombinations(t *testing.T) {
	n := api.MaxStates
	for i, c := range []struct {
		a, b   api.Automaton
		states int
		e      api.Errno
	}{
		{ring(64), ring(63), 4032, api.OK},
		{ring(63), ring(65), 4095, api.OK},
		{ring(64), ring(65), 0, api.ErrLimit},
		{ring(n), ring(n), n, api.OK},
		{ring(n), ring(2), n, api.OK},
		{ring(n), ring(3), 0, api.ErrLimit},
		{chain(n - 1), chain(n - 1), n - 1, api.OK},
		{chain(n), chain(n), 0, api.ErrLimit},
		{chain(n - 1), chain(1), 1, api.OK},
		{chain(n), chain(1), 0, api.ErrLimit},
	} {
		if a, e := language.Intersect(c.a, c.b); e != c.e || a.States != c.states {
			t.Errorf("%d: Intersect: %d states, %d", i, a.States, e)
		}
		for _, call := range []func(a, b api.Automaton) (api.Automaton, api.Errno){language.Union, language.Difference} {
			if a, e := call(c.b, c.a); e != c.e || e != api.OK && !automaton.Equal(a, api.Automaton{}) {
				t.Errorf("%d: %d states, %d", i, a.States, e)
			}
		}
	}
	for i, c := range []struct {
		a      api.Automaton
		states int
		e      api.Errno
	}{
		{ring(n), n, api.OK},
		{chain(n - 1), n, api.OK},
		{chain(n), 0, api.ErrLimit},
	} {
		if a, e := language.Complement(c.a); e != c.e || a.States != c.states || e != api.OK && !automaton.Equal(a, api.Automaton{}) {
			t.Errorf("%d: Complement: %d states, %d", i, a.States, e)
		}
	}
}

// coreachable reports whether a marked state can be reached from a state.
func coreachable(a api.Automaton, state int) bool {
	from := []int{state}
	for i := 0; i < len(from); i++ {
		if slices.Contains(a.Marked, from[i]) {
			return true
		}
		for _, x := range a.Edges {
			if x.From == from[i] && !slices.Contains(from, x.To) {
				from = append(from, x.To)
			}
		}
	}
	return false
}

// P9.3
func TestClosure(t *testing.T) {
	closed, long := 0, 0
	for _, c := range drawn(rand.New(rand.NewSource(5)), 2500) {
		a := c.a
		want := minimalOf(a.Alphabet, initialOf(a), func(s, x int) int { return step(a, s, x) }, func(s int) bool { return coreachable(a, s) })
		if got, e := language.Closure(a); e != api.OK || !automaton.Equal(got, want) {
			t.Errorf("Closure(%v) = %v, %d, not %v", a, got, e, want)
		}
		word, found := first(a, api.Automaton{}, func(w []int) bool {
			return coreachable(a, stateAfter(a, w)) && !has(a, language.Marked, w)
		})
		if w, is, e := language.IsClosed(a); e != api.OK || is == found || !slices.Equal(w, word) {
			t.Errorf("IsClosed(%v) = %v, %t, %d, not %v", a, w, is, e, word)
		}
		if !found && a.States > 1 && len(a.Marked) > 0 {
			closed++
		} else if len(word) > 1 {
			long++
		}
	}
	if closed < 100 || long < 10 {
		t.Errorf("only %d languages are closed, %d witnesses are long", closed, long)
	}
}

// P9.3: the chapter's example; a state that is not marked, from which no marked one can be reached, does no harm.
func TestExamplesOfClosure(t *testing.T) {
	dead := api.Automaton{Alphabet: ints{0, 1}, States: 3, Marked: ints{0, 1}, Edges: edges{{From: 0, Event: 0, To: 2}, {From: 0, Event: 1, To: 1}, {From: 2, Event: 0, To: 2}}}
	for i, c := range []struct {
		a      api.Automaton
		count  []int
		word   []int
		closed bool
	}{
		{single(ints{0, 1}, 0, 1), ints{1, 1, 1, 0}, nil, false},
		{dead, ints{1, 1, 0, 0}, nil, true},
		{api.Automaton{Alphabet: ints{2}}, ints{0, 0, 0, 0}, nil, true},
		{api.Automaton{States: 1}, ints{0, 0, 0, 0}, nil, true},
		{every(0, 3), ints{1, 2, 4, 8}, nil, true},
		{odd(), ints{1, 1, 1, 1}, nil, false},
		{even(), ints{1, 1, 1, 1}, ints{0}, false},
	} {
		closure, e := language.Closure(c.a)
		if count, _ := language.Count(closure, language.Marked, 3); e != api.OK || !slices.Equal(closure.Alphabet, c.a.Alphabet) || !slices.Equal(count, c.count) {
			t.Errorf("%d: Closure = %v, %d", i, closure, e)
		}
		if w, closed, e := language.IsClosed(c.a); e != api.OK || closed != c.closed || !slices.Equal(w, c.word) {
			t.Errorf("%d: IsClosed = %v, %t, %d", i, w, closed, e)
		}
	}
}

// joined is the minimal automaton of all marked words of a that are followed by one of b. A key is a state of a, and a set of states of b.
func joined(a, b api.Automaton) api.Automaton {
	type key struct {
		x   int
		set [6]bool
	}
	enter := func(k key) key {
		if slices.Contains(a.Marked, k.x) && b.States > 0 {
			k.set[0] = true
		}
		return k
	}
	next := func(k key, event int) key {
		n := key{x: step(a, k.x, event)}
		for y, is := range k.set {
			if z := step(b, y, event); is && z != lost {
				n.set[z] = true
			}
		}
		return enter(n)
	}
	marked := func(k key) bool {
		return slices.ContainsFunc(b.Marked, func(y int) bool { return k.set[y] })
	}
	return minimalOf(alphabet.Union(a.Alphabet, b.Alphabet), enter(key{x: initialOf(a)}), next, marked)
}

// P9.3
func TestConcat(t *testing.T) {
	large, none := 0, 0
	for _, c := range drawn(rand.New(rand.NewSource(6)), 800) {
		want := joined(c.a, c.b)
		if got, e := language.Concat(c.a, c.b); e != api.OK || !automaton.Equal(got, want) {
			t.Errorf("Concat(%v, %v) = %v, %d, not %v", c.a, c.b, got, e, want)
		}
		if want.States > 6 {
			large++
		} else if want.States == 0 {
			none++
		}
	}
	if large < 50 || none < 100 {
		t.Errorf("only %d results are large, %d have no states", large, none)
	}
}

// P9.3: the same by dividing words in all ways.
func TestConcatByAllWords(t *testing.T) {
	r := rand.New(rand.NewSource(7))
	l := words(ints{0, 1}, 5)
	for range 200 {
		a, b := draw(r, 4, 2), draw(r, 4, 2)
		c, e := language.Concat(a, b)
		if e != api.OK {
			t.Fatalf("Concat(%v, %v): %d", a, b, e)
		}
		for _, w := range l {
			want := false
			for i := range len(w) + 1 {
				want = want || has(a, language.Marked, w[:i]) && has(b, language.Marked, w[i:])
			}
			if has(c, language.Marked, w) != want {
				t.Errorf("Concat(%v, %v) = %v: %v", a, b, c, w)
			}
		}
	}
}

// P9.3: words that end before others begin; empty languages; words of different alphabets.
func TestExamplesOfConcat(t *testing.T) {
	for i, c := range []struct{ a, b, want api.Automaton }{
		{single(ints{0, 1}, 0), single(ints{1}, 1), single(ints{0, 1}, 0, 1)},
		{single(ints{3}, 3), single(ints{1}, 1), single(ints{1, 3}, 3, 1)},
		{odd(), odd(), api.Automaton{Alphabet: ints{0}, States: 3, Marked: ints{2}, Edges: edges{{From: 0, Event: 0, To: 1}, {From: 1, Event: 0, To: 2}, {From: 2, Event: 0, To: 1}}}},
		{odd(), api.Automaton{Alphabet: ints{5}}, api.Automaton{Alphabet: ints{0, 5}}},
		{api.Automaton{Alphabet: ints{5}}, odd(), api.Automaton{Alphabet: ints{0, 5}}},
		{api.Automaton{}, api.Automaton{}, api.Automaton{}},
		{odd(), every(), odd()},
		{every(), odd(), odd()},
		{every(), every(), every()},
		{every(0), api.Automaton{States: 2, Marked: ints{1}}, api.Automaton{Alphabet: ints{0}}},
	} {
		if got, e := language.Concat(c.a, c.b); e != api.OK || !automaton.Equal(got, c.want) {
			t.Errorf("%d: Concat = %v, %d", i, got, e)
		}
	}
}

// delayed marks the words of the events 0 and 1 that begin with 1 and have n events.
func delayed(n int) api.Automaton {
	a := api.Automaton{Alphabet: ints{0, 1}, States: n + 1, Marked: ints{n}, Edges: edges{{From: 0, Event: 1, To: 1}}}
	for s := 1; s < n; s++ {
		a.Edges = append(a.Edges, api.Edge{From: s, Event: 0, To: s + 1}, api.Edge{From: s, Event: 1, To: s + 1})
	}
	return a
}

// P9.3: after any words, the sets of states are all sets of events 1 among the last ones.
func TestLimitsOfConcat(t *testing.T) {
	n := api.MaxStates
	if a, e := language.Concat(every(0, 1), delayed(12)); e != api.OK || a.States != n || len(a.Marked) != n/2 {
		t.Errorf("Concat: %d states, %d", a.States, e)
	}
	for _, length := range []int{13, 100, n - 1} {
		if a, e := language.Concat(every(0, 1), delayed(length)); e != api.ErrLimit || !automaton.Equal(a, api.Automaton{}) {
			t.Errorf("Concat: %d states, %d", a.States, e)
		}
	}
	if a, e := language.Concat(single(ints{0}, make([]int, n/2)...), single(ints{0}, make([]int, n/2-1)...)); e != api.OK || a.States != n {
		t.Errorf("Concat: %d states, %d", a.States, e)
	}
	if a, e := language.Concat(single(ints{0}, make([]int, n/2)...), single(ints{0}, make([]int, n/2)...)); e != api.ErrLimit || a.States != 0 {
		t.Errorf("Concat: %d states, %d", a.States, e)
	}
	if a, e := language.Concat(chain(n), chain(1)); e != api.OK || a.States != n || len(a.Marked) != n {
		t.Errorf("Concat: %d states, %d", a.States, e)
	}
	if a, e := language.Concat(chain(1), chain(n)); e != api.OK || a.States != n || len(a.Marked) != n {
		t.Errorf("Concat: %d states, %d", a.States, e)
	}
	if a, e := language.Closure(single(ints{0}, make([]int, n-1)...)); e != api.OK || !automaton.Equal(a, chain(n)) {
		t.Errorf("Closure: %d states, %d", a.States, e)
	}
	last := chain(n)
	last.Marked = slices.Delete(last.Marked, n-2, n-1)
	if w, closed, e := language.IsClosed(last); e != api.OK || closed || len(w) != n-2 {
		t.Errorf("IsClosed: %d events, %t, %d", len(w), closed, e)
	}
}

// P9.4
func TestCount(t *testing.T) {
	r := rand.New(rand.NewSource(8))
	l := words(ints{0, 1, 2}, 5)
	for _, c := range drawn(r, 500) {
		for _, kind := range kinds {
			want := make([]int, 6)
			for _, w := range l {
				if has(c.a, kind, w) {
					want[len(w)]++
				}
			}
			length := r.Intn(6)
			if numbers, e := language.Count(c.a, kind, length); e != api.OK || !slices.Equal(numbers, want[:length+1]) {
				t.Errorf("Count(%v, %d, %d) = %v, %d, not %v", c.a, kind, length, numbers, e, want)
			}
		}
	}
}

// P9.4: numbers up to 2^50, numbers that are greater, and numbers of runs that are greater but do not count.
func TestLimitsOfCount(t *testing.T) {
	all := every(upTo(api.MaxEvents)...)
	powers := func(n, length int) []int {
		l := ints{1}
		for i := range length {
			l = append(l, l[i]*n)
		}
		return l
	}
	unmarked := all
	unmarked.Marked = nil
	late := api.Automaton{Alphabet: all.Alphabet, States: 2, Marked: ints{1}, Edges: all.Edges[:31:31]}
	late.Edges = append(late.Edges, api.Edge{From: 0, Event: 31, To: 1})
	for i, c := range []struct {
		a            api.Automaton
		kind, length int
		want         []int
		e            api.Errno
	}{
		{all, language.Marked, 10, powers(32, 10), api.OK},
		{all, language.Generated, 10, powers(32, 10), api.OK},
		{all, language.Generated, 11, nil, api.ErrLimit},
		{all, language.Marked, 32, nil, api.ErrLimit},
		{unmarked, language.Marked, 32, make([]int, 33), api.OK},
		{unmarked, language.Generated, 32, nil, api.ErrLimit},
		{late, language.Marked, 11, append(ints{0}, powers(31, 10)...), api.OK},
		{late, language.Marked, 12, nil, api.ErrLimit},
		{every(3, 4), language.Marked, 32, powers(2, 32), api.OK},
		{every(3, 4, 5), language.Marked, 31, powers(3, 31), api.OK},
		{every(3, 4, 5), language.Marked, 32, nil, api.ErrLimit},
		{every(0, 1), language.Marked, 3, ints{1, 2, 4, 8}, api.OK},
		{every(0, 1), language.Marked, 0, ints{1}, api.OK},
		{odd(), language.Marked, 0, ints{0}, api.OK},
		{api.Automaton{}, language.Generated, 2, ints{0, 0, 0}, api.OK},
		{odd(), language.Marked, -1, nil, api.ErrRange},
		{odd(), language.Marked, 33, nil, api.ErrRange},
		{all, language.Generated, math.MaxInt, nil, api.ErrRange},
		{all, language.Generated, math.MinInt, nil, api.ErrRange},
		{odd(), 3, -1, nil, api.ErrKind},
	} {
		if numbers, e := language.Count(c.a, c.kind, c.length); e != c.e || !slices.Equal(numbers, c.want) {
			t.Errorf("%d: Count = %v, %d", i, numbers, e)
		}
	}
}

// P9.5
func TestConsequences(t *testing.T) {
	both, apart := 0, 0
	for _, c := range drawn(rand.New(rand.NewSource(9)), 400) {
		a, b := c.a, c.b
		union, _ := language.Union(a, b)
		intersection, _ := language.Intersect(a, b)
		difference, _ := language.Difference(a, b)
		_, included, _ := language.Included(a, b, language.Marked)
		_, includes, _ := language.Included(b, a, language.Marked)
		_, equal, _ := language.Equal(a, b, language.Marked)
		if empty, e := language.Empty(difference, language.Marked); e != api.OK || empty != included || empty != (difference.States == 0) {
			t.Errorf("Empty(Difference(%v, %v)) = %t, %d", a, b, empty, e)
		}
		if equal != (included && includes) {
			t.Errorf("Equal(%v, %v) = %t", a, b, equal)
		}
		if equal {
			both++
		} else {
			apart++
		}
		notA, _ := language.Complement(a)
		least := leastOf(a)
		if again, e := language.Complement(notA); e != api.OK || !automaton.Equal(again, least) {
			t.Errorf("Complement(Complement(%v)) = %v, %d", a, again, e)
		}
		closure, _ := language.Closure(a)
		if again, e := language.Closure(closure); e != api.OK || !automaton.Equal(again, closure) {
			t.Errorf("Closure(Closure(%v)) = %v, %d", a, again, e)
		}
		if _, closed, _ := language.IsClosed(a); closed && !automaton.Equal(closure, least) {
			t.Errorf("Closure(%v) = %v", a, closure)
		}
		checkSums(t, a, b, union, intersection)
		if slices.Equal(a.Alphabet, b.Alphabet) {
			if automaton.Equal(least, leastOf(b)) != equal {
				t.Errorf("Equal(%v, %v) = %t, but not their minimal automata", a, b, equal)
			}
			checkDeMorgan(t, a, b, union, intersection)
		}
	}
	if both < 50 || apart < 100 {
		t.Errorf("only %d couples are equal, %d are not", both, apart)
	}
}

func leastOf(a api.Automaton) api.Automaton {
	trim, _ := reach.Trim(a)
	least, _ := minimal.Minimize(trim)
	return least
}

// checkSums checks that the numbers of words of a union and of an intersection add up to those of both.
func checkSums(t *testing.T, a, b, union, intersection api.Automaton) {
	var counts [4][]int
	for i, x := range []api.Automaton{a, b, union, intersection} {
		var e api.Errno
		if counts[i], e = language.Count(x, language.Marked, 20); e != api.OK {
			t.Errorf("Count(%v): %d", x, e)
			return
		}
	}
	for i := range 21 {
		if counts[0][i]+counts[1][i] != counts[2][i]+counts[3][i] {
			t.Errorf("%v and %v have %v words", a, b, counts)
		}
	}
}

// checkDeMorgan checks that the complement of a union is the intersection of the complements, and the other way round.
func checkDeMorgan(t *testing.T, a, b, union, intersection api.Automaton) {
	notA, _ := language.Complement(a)
	notB, _ := language.Complement(b)
	left, _ := language.Complement(union)
	if right, e := language.Intersect(notA, notB); e != api.OK || !automaton.Equal(left, right) {
		t.Errorf("De Morgan: %v and %v: %v is not %v", a, b, left, right)
	}
	left, _ = language.Complement(intersection)
	if right, e := language.Union(notA, notB); e != api.OK || !automaton.Equal(left, right) {
		t.Errorf("De Morgan: %v and %v: %v is not %v", a, b, left, right)
	}
}

// P1: the error of the first automaton, then that of the second one, then that of the kind.
func TestErrors(t *testing.T) {
	good := every(0)
	bad := api.Automaton{States: -1}
	worse := api.Automaton{Alphabet: ints{1, 1}}
	many := api.Automaton{States: api.MaxStates + 1}
	for i, c := range []struct {
		a, b api.Automaton
		kind int
		e    api.Errno
	}{
		{bad, worse, 0, api.ErrRange},
		{worse, bad, 1, api.ErrOrder},
		{many, worse, 3, api.ErrLimit},
		{good, worse, 0, api.ErrOrder},
		{good, many, 2, api.ErrLimit},
		{good, good, 0, api.ErrKind},
		{good, good, 3, api.ErrKind},
		{good, good, -1, api.ErrKind},
		{good, good, math.MaxInt, api.ErrKind},
		{good, good, math.MinInt, api.ErrKind},
	} {
		for _, call := range []func(a, b api.Automaton, kind int) ([]int, bool, api.Errno){language.Included, language.Equal} {
			if w, is, e := call(c.a, c.b, c.kind); e != c.e || is || len(w) != 0 {
				t.Errorf("%d: %v, %t, %d", i, w, is, e)
			}
		}
		calls(t, i, c.a, c.b, c.kind, c.e)
	}
}

// calls calls all functions that have the error for a, or for both.
func calls(t *testing.T, i int, a, b api.Automaton, kind int, want api.Errno) {
	if want != api.ErrKind {
		for k, call := range []func(a, b api.Automaton) (api.Automaton, api.Errno){language.Intersect, language.Union, language.Difference, language.Concat} {
			if x, e := call(a, b); e != want || !automaton.Equal(x, api.Automaton{}) {
				t.Errorf("%d: %d: %v, %d", i, k, x, e)
			}
		}
	}
	ofA := automaton.Check(a)
	for k, call := range []func(a api.Automaton) (api.Automaton, api.Errno){language.Complement, language.Closure} {
		if x, e := call(a); e != ofA || e != api.OK && !automaton.Equal(x, api.Automaton{}) {
			t.Errorf("%d: %d: %v, %d", i, k, x, e)
		}
	}
	if w, is, e := language.IsClosed(a); e != ofA || len(w) != 0 || is != (e == api.OK) {
		t.Errorf("%d: IsClosed = %v, %t, %d", i, w, is, e)
	}
	if ofA == api.OK && want != api.ErrKind {
		return
	}
	if is, e := language.Empty(a, kind); e != want || is {
		t.Errorf("%d: Empty = %t, %d", i, is, e)
	}
	if l, e := language.Count(a, kind, -1); e != want || len(l) != 0 {
		t.Errorf("%d: Count = %v, %d", i, l, e)
	}
	if w, is, e := language.Least(a, kind); e != want || is || len(w) != 0 {
		t.Errorf("%d: Least = %v, %t, %d", i, w, is, e)
	}
}

// P1 and P9.1: automata with as many states as there may be, and products with many more.
func TestManyStates(t *testing.T) {
	n := api.MaxStates
	if w, included, e := language.Included(ring(n), ring(n-1), language.Generated); e != api.OK || !included || len(w) != 0 {
		t.Errorf("Included: %d events, %t, %d", len(w), included, e)
	}
	if w, included, e := language.Included(ring(n), ring(n-1), language.Marked); e != api.OK || included || len(w) != n {
		t.Errorf("Included: %d events, %t, %d", len(w), included, e)
	}
	small, other := ring(n), ring(n-1)
	small.Marked, other.Marked = ints{n - 1}, nil
	for x := range n - 1 {
		if x != n-2 {
			other.Marked = append(other.Marked, x)
		}
	}
	if w, included, e := language.Included(small, other, language.Marked); e != api.OK || included || len(w) != n*(n-1)-1 {
		t.Errorf("Included: %d events, %t, %d", len(w), included, e)
	}
	if w, equal, e := language.Equal(chain(n), ring(n), language.Generated); e != api.OK || equal || len(w) != n {
		t.Errorf("Equal: %d events, %t, %d", len(w), equal, e)
	}
	full := api.Automaton{Alphabet: upTo(api.MaxEvents), States: n, Marked: ints{n - 1}}
	for s := range n {
		for x := range api.MaxEvents {
			full.Edges = append(full.Edges, api.Edge{From: s, Event: x, To: (s + 1 + x%2*(n-1)) % n})
		}
	}
	if _, equal, e := language.Equal(full, full, language.Marked); e != api.OK || !equal {
		t.Errorf("Equal: %t, %d", equal, e)
	}
	if a, e := language.Intersect(full, full); e != api.OK || a.States != n {
		t.Errorf("Intersect: %d states, %d", a.States, e)
	}
	if w, is, e := language.Least(full, language.Marked); e != api.OK || !is || len(w) != n-1 || slices.Max(w) != 0 {
		t.Errorf("Least: %d events, %t, %d", len(w), is, e)
	}
	if numbers, e := language.Count(chain(n), language.Marked, 32); e != api.OK || len(numbers) != 33 || slices.Min(numbers) != 1 || slices.Max(numbers) != 1 {
		t.Errorf("Count = %v, %d", numbers, e)
	}
}

// Neither arguments are changed, nor do results share memory with them.
func TestArgumentsAreKept(t *testing.T) {
	a, b := single(ints{0, 1}, 0, 1), every(0, 1)
	for range 2 {
		var l []api.Automaton
		for _, call := range []func(a, b api.Automaton) (api.Automaton, api.Errno){language.Intersect, language.Union, language.Difference, language.Concat} {
			x, _ := call(a, b)
			y, _ := call(b, a)
			l = append(l, x, y)
		}
		for _, call := range []func(a api.Automaton) (api.Automaton, api.Errno){language.Complement, language.Closure} {
			x, _ := call(a)
			y, _ := call(b)
			l = append(l, x, y)
		}
		for _, x := range l {
			for i := range x.Edges {
				x.Edges[i] = api.Edge{From: -7}
			}
			scribble(x.Alphabet, x.Marked)
		}
		v, _, _ := language.Included(b, a, language.Generated)
		w, _, _ := language.Least(a, language.Marked)
		scribble(v, w)
	}
	if !automaton.Equal(a, single(ints{0, 1}, 0, 1)) || !automaton.Equal(b, every(0, 1)) {
		t.Errorf("changed: %v, %v", a, b)
	}
}

func scribble(l ...[]int) {
	for _, set := range l {
		for i := range set {
			set[i] = -7
		}
	}
}

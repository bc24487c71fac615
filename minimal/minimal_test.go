package minimal_test

import (
	"math"
	"math/rand"
	"slices"
	"testing"

	"overseer/api"
	"overseer/automaton"
	"overseer/minimal"
	"overseer/product"
	"overseer/reach"
)

type (
	edges = []api.Edge
	ints  = []int
)

// example is the automaton of the chapter's first example (a is 0, b is 1).
func example() api.Automaton {
	return api.Automaton{Alphabet: ints{0, 1}, States: 4, Marked: ints{3}, Edges: edges{{From: 0, Event: 0, To: 1}, {From: 0, Event: 1, To: 2}, {From: 1, Event: 0, To: 3}, {From: 2, Event: 0, To: 3}}}
}

// chain returns an automaton in which event 0 leads from each of n states to the next one, and ring one in which it also leads from the last state to the first one.
func chain(n int) api.Automaton {
	a := api.Automaton{Alphabet: ints{0}, States: n}
	for s := range n - 1 {
		a.Edges = append(a.Edges, api.Edge{From: s, Event: 0, To: s + 1})
	}
	return a
}

func ring(n int) api.Automaton {
	a := chain(n)
	a.Edges = append(a.Edges, api.Edge{From: n - 1, Event: 0, To: 0})
	return a
}

// some draws the sequence of numbers below n, each with the chance of one in few.
func some(r *rand.Rand, n, few int) []int {
	var set []int
	for x := range n {
		if r.Intn(few) == 0 {
			set = append(set, x)
		}
	}
	return set
}

// draw draws an automaton with some of the first events, in which states are often equivalent.
func draw(r *rand.Rand, states, events int) api.Automaton {
	a := api.Automaton{Alphabet: some(r, events, 1+r.Intn(2)), States: 1 + r.Intn(states)}
	a.Marked = some(r, a.States, 1+r.Intn(6))
	dense, targets := 2+r.Intn(6), a.States-r.Intn(1+r.Intn(a.States))
	for s := range a.States {
		for _, x := range a.Alphabet {
			if r.Intn(6) < dense {
				a.Edges = append(a.Edges, api.Edge{From: s, Event: x, To: r.Intn(targets)})
			}
		}
	}
	return a
}

// doubled returns an automaton in which each state has a copy, and each edge leads to one of both copies, with the state of which each is a copy.
func doubled(r *rand.Rand, a api.Automaton) (api.Automaton, []int) {
	b := api.Automaton{Alphabet: a.Alphabet, States: 2 * a.States}
	var from []int
	for s := range b.States {
		if slices.Contains(a.Marked, s/2) {
			b.Marked = append(b.Marked, s)
		}
		from = append(from, s/2)
		for _, x := range a.Edges {
			if x.From == s/2 {
				b.Edges = append(b.Edges, api.Edge{From: s, Event: x.Event, To: 2*x.To + r.Intn(2)})
			}
		}
	}
	return b, from
}

// drawn returns the empty automaton, special ones, and many small ones that are drawn in a fixed way.
func drawn(r *rand.Rand) []api.Automaton {
	l := []api.Automaton{{}, {Alphabet: ints{0, 31}}, {States: 1}, {States: 3, Marked: ints{0, 2}}, {Alphabet: ints{4}, States: 2, Marked: ints{0, 1}}, example(), chain(5), ring(5)}
	for range 1000 {
		a := draw(r, 6, 3)
		if r.Intn(2) == 0 {
			a, _ = doubled(r, draw(r, 4, 3))
		}
		l = append(l, a)
	}
	return l
}

// The outcomes of a word: it leads to no state, to one that is not marked, or to a marked one.
const (
	nowhere = iota
	somewhere
	atMarked
)

func outcome(a api.Automaton, from int, w []int) int {
	if from >= a.States {
		return nowhere
	}
	for _, x := range w {
		i := slices.IndexFunc(a.Edges, func(y api.Edge) bool { return y.From == from && y.Event == x })
		if i < 0 {
			return nowhere
		}
		from = a.Edges[i].To
	}
	if slices.Contains(a.Marked, from) {
		return atMarked
	}
	return somewhere
}

// words returns all words over some events up to a length, in their order.
func words(events []int, most int) [][]int {
	l := [][]int{nil}
	for i := 0; i < len(l) && len(l[i]) < most; i++ {
		for _, x := range events {
			l = append(l, append(slices.Clone(l[i]), x))
		}
	}
	return l
}

// distinguished is the first of all words in their order that distinguishes a state of a from one of b.
func distinguished(a api.Automaton, x int, b api.Automaton, y int, l [][]int) ([]int, bool) {
	i := slices.IndexFunc(l, func(w []int) bool { return outcome(a, x, w) != outcome(b, y, w) })
	if i < 0 {
		return nil, false
	}
	return l[i], true
}

// equivalent flags the pairs of states that no word distinguishes: all but those that differ, and those from which an event leads to others.
func equivalent(a api.Automaton) [][]bool {
	same := make([][]bool, a.States)
	for x := range a.States {
		for y := range a.States {
			same[x] = append(same[x], slices.Equal(enabled(a, x), enabled(a, y)) && slices.Contains(a.Marked, x) == slices.Contains(a.Marked, y))
		}
	}
	for changed := true; changed; {
		changed = false
		for _, e := range a.Edges {
			for _, f := range a.Edges {
				if e.Event == f.Event && same[e.From][f.From] && !same[e.To][f.To] {
					same[e.From][f.From], changed = false, true
				}
			}
		}
	}
	return same
}

func enabled(a api.Automaton, state int) []int {
	var set []int
	for _, x := range a.Edges {
		if x.From == state {
			set = append(set, x.Event)
		}
	}
	return set
}

// classesOf are the canonical classes of equivalent states.
func classesOf(a api.Automaton) []int {
	var classes []int
	n := 0
	for x, same := range equivalent(a) {
		if first := slices.Index(same, true); first < x {
			classes = append(classes, classes[first])
		} else {
			classes, n = append(classes, n), n+1
		}
	}
	return classes
}

// merged is the merged automaton for consistent classes, by its definition: the classes are found breadth first.
func merged(a api.Automaton, classes []int) api.Automaton {
	m := api.Automaton{Alphabet: a.Alphabet}
	var order []int
	if a.States > 0 {
		order = append(order, classes[0])
	}
	for n := 0; n < len(order); n++ {
		s := slices.Index(classes, order[n])
		if slices.Contains(a.Marked, s) {
			m.Marked = append(m.Marked, n)
		}
		for _, x := range a.Edges {
			if x.From != s {
				continue
			}
			if !slices.Contains(order, classes[x.To]) {
				order = append(order, classes[x.To])
			}
			m.Edges = append(m.Edges, api.Edge{From: n, Event: x.Event, To: slices.Index(order, classes[x.To])})
		}
	}
	m.States = len(order)
	return m
}

// consistent is the definition of consistent classes.
func consistent(a api.Automaton, classes []int) bool {
	for x := range a.States {
		for y := range a.States {
			if classes[x] == classes[y] && (slices.Contains(a.Marked, x) != slices.Contains(a.Marked, y) || !slices.Equal(enabled(a, x), enabled(a, y))) {
				return false
			}
		}
	}
	for _, e := range a.Edges {
		for _, f := range a.Edges {
			if classes[e.From] == classes[f.From] && e.Event == f.Event && classes[e.To] != classes[f.To] {
				return false
			}
		}
	}
	return true
}

// P8.1
func TestClasses(t *testing.T) {
	fewer, apart := 0, 0
	for _, a := range drawn(rand.New(rand.NewSource(1))) {
		want := classesOf(a)
		classes, e := minimal.Classes(a)
		if e != api.OK || !slices.Equal(classes, want) {
			t.Errorf("Classes(%v) = %v, %d, not %v", a, classes, e, want)
		}
		if a.States > 0 && slices.Max(want) > 1 && slices.Max(want) < a.States-1 {
			fewer++
			if !automaton.IsCanonical(a) {
				apart++
			}
		}
	}
	if fewer < 50 || apart < 50 {
		t.Errorf("only %d automata have states that are equivalent, %d are not canonical", fewer, apart)
	}
}

// P8.1: the definition of equivalent states by words.
func TestClassesAreThoseOfWords(t *testing.T) {
	r := rand.New(rand.NewSource(2))
	for range 200 {
		a := draw(r, 4, 3)
		l := words(a.Alphabet, a.States)
		classes, e := minimal.Classes(a)
		if e != api.OK || len(classes) != a.States {
			t.Fatalf("Classes(%v) = %v, %d", a, classes, e)
		}
		for x := range a.States {
			for y := range a.States {
				if w, apart := distinguished(a, x, a, y, l); apart == (classes[x] == classes[y]) {
					t.Errorf("Classes(%v) = %v, but %v distinguishes %d and %d", a, classes, w, x, y)
				}
			}
		}
	}
}

// P8.1
func TestMinimize(t *testing.T) {
	fewer := 0
	for _, a := range drawn(rand.New(rand.NewSource(3))) {
		want := merged(a, classesOf(a))
		m, e := minimal.Minimize(a)
		if e != api.OK || !automaton.Equal(m, want) || !automaton.IsCanonical(m) {
			t.Errorf("Minimize(%v) = %v, %d, not %v", a, m, e, want)
		}
		if is, e := minimal.IsMinimal(a); e != api.OK || is != automaton.Equal(a, want) {
			t.Errorf("IsMinimal(%v) = %t, %d", a, is, e)
		}
		if is, e := minimal.IsMinimal(m); e != api.OK || !is {
			t.Errorf("IsMinimal(%v) = %t, %d", m, is, e)
		}
		if canonical, _ := automaton.Canonical(a); m.States > 2 && m.States < canonical.States {
			fewer++
		}
	}
	if fewer < 40 {
		t.Errorf("only %d automata have become smaller", fewer)
	}
}

// P8.1: the chapter's example; states that cannot be reached, and states from which no marked one can be.
func TestExamplesOfMinimize(t *testing.T) {
	unreached := api.Automaton{Alphabet: ints{0}, States: 4, Marked: ints{1, 2}, Edges: edges{{From: 0, Event: 0, To: 2}, {From: 1, Event: 0, To: 3}, {From: 2, Event: 0, To: 3}}}
	for i, c := range []struct {
		a       api.Automaton
		classes []int
		want    api.Automaton
	}{
		{example(), ints{0, 1, 1, 2}, api.Automaton{Alphabet: ints{0, 1}, States: 3, Marked: ints{2}, Edges: edges{{From: 0, Event: 0, To: 1}, {From: 0, Event: 1, To: 1}, {From: 1, Event: 0, To: 2}}}},
		{unreached, ints{0, 1, 1, 2}, api.Automaton{Alphabet: ints{0}, States: 3, Marked: ints{1}, Edges: edges{{From: 0, Event: 0, To: 1}, {From: 1, Event: 0, To: 2}}}},
		{chain(3), ints{0, 1, 2}, chain(3)},
		{ring(3), ints{0, 0, 0}, ring(1)},
		{api.Automaton{Alphabet: ints{0}, States: 2, Edges: edges{{From: 0, Event: 0, To: 1}}}, ints{0, 1}, chain(2)},
		{api.Automaton{Alphabet: ints{0, 7}, States: 2, Marked: ints{0, 1}, Edges: edges{{From: 0, Event: 0, To: 1}, {From: 1, Event: 0, To: 0}}}, ints{0, 0}, api.Automaton{Alphabet: ints{0, 7}, States: 1, Marked: ints{0}, Edges: edges{{From: 0, Event: 0, To: 0}}}},
		{api.Automaton{States: 3, Marked: ints{0, 2}}, ints{0, 1, 0}, api.Automaton{States: 1, Marked: ints{0}}},
		{api.Automaton{Alphabet: ints{3}}, nil, api.Automaton{Alphabet: ints{3}}},
		{api.Automaton{}, nil, api.Automaton{}},
	} {
		if classes, e := minimal.Classes(c.a); e != api.OK || !slices.Equal(classes, c.classes) {
			t.Errorf("%d: Classes = %v, %d", i, classes, e)
		}
		if m, e := minimal.Minimize(c.a); e != api.OK || !automaton.Equal(m, c.want) {
			t.Errorf("%d: Minimize = %v, %d", i, m, e)
		}
	}
}

// P8.1: automata with the states in another order, with states too many, and with lists that are nil or empty.
func TestExamplesOfIsMinimal(t *testing.T) {
	for i, c := range []struct {
		a  api.Automaton
		is bool
	}{
		{example(), false},
		{chain(3), true},
		{ring(2), false},
		{ring(1), true},
		{api.Automaton{}, true},
		{api.Automaton{Alphabet: ints{}, Marked: ints{}, Edges: edges{}}, true},
		{api.Automaton{Alphabet: ints{0, 5}}, true},
		{api.Automaton{States: 1, Marked: ints{}, Edges: edges{}}, true},
		{api.Automaton{States: 2, Marked: ints{1}}, false},
		{api.Automaton{Alphabet: ints{0, 1}, States: 3, Marked: ints{1}, Edges: edges{{From: 0, Event: 0, To: 2}, {From: 0, Event: 1, To: 1}}}, false},
		{api.Automaton{Alphabet: ints{0, 1}, States: 3, Marked: ints{2}, Edges: edges{{From: 0, Event: 0, To: 1}, {From: 0, Event: 1, To: 2}}}, true},
	} {
		if is, e := minimal.IsMinimal(c.a); e != api.OK || is != c.is {
			t.Errorf("%d: IsMinimal = %t, %d", i, is, e)
		}
	}
}

// P8.2
func TestDistinguish(t *testing.T) {
	r := rand.New(rand.NewSource(4))
	long := 0
	for range 800 {
		a := draw(r, 5, 3)
		l := words(a.Alphabet, a.States)
		for x := range a.States {
			for y := range a.States {
				want, is := distinguished(a, x, a, y, l)
				w, found, e := minimal.Distinguish(a, x, y)
				if e != api.OK || found != is || !slices.Equal(w, want) {
					t.Errorf("Distinguish(%v, %d, %d) = %v, %t, %d, not %v, %t", a, x, y, w, found, e, want, is)
				}
				if len(w) > 1 {
					long++
				}
			}
		}
	}
	if long < 100 {
		t.Errorf("only %d words are long", long)
	}
}

// leastWord looks through all pairs of states to which the same words lead, in the order of these words.
func leastWord(a api.Automaton, x, y int) ([]int, bool) {
	if outcome(a, x, nil) != outcome(a, y, nil) {
		return nil, true
	}
	pairs, found := [][2]int{{x, y}}, [][]int{nil}
	for i := 0; i < len(pairs); i++ {
		for _, e := range a.Alphabet {
			var next [2]int
			var possible [2]bool
			for k, s := range pairs[i] {
				next[k], possible[k], _ = automaton.Step(a, s, e)
			}
			w := append(slices.Clone(found[i]), e)
			if possible[0] != possible[1] || outcome(a, next[0], nil) != outcome(a, next[1], nil) {
				return w, true
			}
			if possible[0] && !slices.Contains(pairs, next) {
				pairs, found = append(pairs, next), append(found, w)
			}
		}
	}
	return nil, false
}

// P8.1 and P8.2 for automata with more states.
func TestDistinguishManyStates(t *testing.T) {
	r := rand.New(rand.NewSource(8))
	long := 0
	for range 300 {
		a := draw(r, 40, 3)
		if r.Intn(2) == 0 {
			a, _ = doubled(r, draw(r, 20, 3))
		}
		if r.Intn(2) == 0 {
			a.Marked = some(r, a.States, a.States)
		}
		classes, e := minimal.Classes(a)
		if e != api.OK || len(classes) != a.States {
			t.Fatalf("Classes(%v) = %v, %d", a, classes, e)
		}
		for range 20 {
			x, y := r.Intn(a.States), r.Intn(a.States)
			want, is := leastWord(a, x, y)
			w, found, e := minimal.Distinguish(a, x, y)
			if e != api.OK || found != is || !slices.Equal(w, want) {
				t.Errorf("Distinguish(%v, %d, %d) = %v, %t, %d, not %v, %t", a, x, y, w, found, e, want, is)
			}
			if is == (classes[x] == classes[y]) {
				t.Errorf("Classes(%v) = %v, but %v distinguishes %d and %d: %t", a, classes, want, x, y, is)
			}
			if len(w) > 2 {
				long++
			}
		}
	}
	if long < 50 {
		t.Errorf("only %d words are long", long)
	}
}

// P8.2: the chapter's example; words that lead on from one state alone, or to a marked state from one alone; no such states.
func TestExamplesOfDistinguish(t *testing.T) {
	fork := api.Automaton{Alphabet: ints{0, 1, 2}, States: 4, Marked: ints{2}, Edges: edges{{From: 0, Event: 0, To: 1}, {From: 0, Event: 1, To: 2}, {From: 0, Event: 2, To: 0}, {From: 1, Event: 0, To: 0}, {From: 1, Event: 1, To: 1}, {From: 3, Event: 0, To: 0}, {From: 3, Event: 1, To: 2}, {From: 3, Event: 2, To: 0}}}
	for i, c := range []struct {
		a     api.Automaton
		x, y  int
		word  []int
		found bool
		e     api.Errno
	}{
		{example(), 0, 3, nil, true, api.OK},
		{example(), 0, 1, ints{0}, true, api.OK},
		{example(), 1, 0, ints{0}, true, api.OK},
		{example(), 1, 2, nil, false, api.OK},
		{example(), 3, 3, nil, false, api.OK},
		{fork, 0, 1, ints{1}, true, api.OK},
		{fork, 0, 3, ints{0, 1}, true, api.OK},
		{chain(5), 3, 2, ints{0, 0}, true, api.OK},
		{ring(5), 3, 2, nil, false, api.OK},
		{api.Automaton{States: 2, Marked: ints{1}}, 1, 0, nil, true, api.OK},
		{example(), 4, 0, nil, false, api.ErrRange},
		{example(), 0, 4, nil, false, api.ErrRange},
		{example(), -1, 0, nil, false, api.ErrRange},
		{example(), 0, -1, nil, false, api.ErrRange},
		{example(), 4, 4, nil, false, api.ErrRange},
		{example(), math.MaxInt, math.MinInt, nil, false, api.ErrRange},
		{api.Automaton{}, 0, 0, nil, false, api.ErrRange},
	} {
		if w, found, e := minimal.Distinguish(c.a, c.x, c.y); e != c.e || found != c.found || !slices.Equal(w, c.word) {
			t.Errorf("%d: Distinguish = %v, %t, %d", i, w, found, e)
		}
	}
}

// P8.3
func TestEquivalent(t *testing.T) {
	r := rand.New(rand.NewSource(5))
	equal, long := 0, 0
	for range 4000 {
		a, b := draw(r, 3, 2), draw(r, 3, 2)
		if r.Intn(2) == 0 {
			b, _ = doubled(r, a)
			if r.Intn(2) == 0 {
				b.Marked = b.Marked[:len(b.Marked)/2]
			} else if len(b.Edges) > 0 {
				b.Edges[r.Intn(len(b.Edges))].To = r.Intn(b.States)
			}
		}
		set := slices.Compact(slices.Sorted(slices.Values(append(slices.Clone(a.Alphabet), b.Alphabet...))))
		want, apart := distinguished(a, 0, b, 0, words(set, a.States+b.States-1))
		same, w, e := minimal.Equivalent(a, b)
		if e != api.OK || same == apart || !slices.Equal(w, want) {
			t.Errorf("Equivalent(%v, %v) = %t, %v, %d, not %v", a, b, same, w, e, want)
		}
		if same, w, e := minimal.Equivalent(b, a); e != api.OK || same == apart || !slices.Equal(w, want) {
			t.Errorf("Equivalent(%v, %v) = %t, %v, %d, not %v", b, a, same, w, e, want)
		}
		if !apart && !automaton.Equal(a, b) {
			equal++
		} else if len(w) > 1 {
			long++
		}
	}
	if equal < 100 || long < 50 {
		t.Errorf("only %d pairs are equivalent, %d words are long", equal, long)
	}
}

// P8.3: alphabets do not matter, and the empty automaton generates nothing.
func TestExamplesOfEquivalent(t *testing.T) {
	wide := chain(3)
	wide.Alphabet = ints{0, 4, 31}
	other := api.Automaton{Alphabet: ints{1}, States: 2, Edges: edges{{From: 0, Event: 1, To: 1}}}
	all := ring(4)
	all.Marked = ints{0, 1, 2, 3}
	last := ring(4)
	last.Marked = ints{3}
	for i, c := range []struct {
		a, b api.Automaton
		same bool
		word []int
	}{
		{chain(3), wide, true, nil},
		{chain(3), chain(4), false, ints{0, 0, 0}},
		{chain(2), other, false, ints{0}},
		{other, api.Automaton{States: 1}, false, ints{1}},
		{ring(2), ring(3), true, nil},
		{ring(4), last, false, ints{0, 0, 0}},
		{ring(4), all, false, nil},
		{all, last, false, nil},
		{api.Automaton{}, api.Automaton{}, true, nil},
		{api.Automaton{}, api.Automaton{Alphabet: ints{3}}, true, nil},
		{api.Automaton{}, api.Automaton{States: 1}, false, nil},
		{api.Automaton{States: 1, Marked: ints{0}}, api.Automaton{Alphabet: ints{0}}, false, nil},
		{api.Automaton{States: 1}, api.Automaton{States: 4, Marked: ints{1, 2, 3}}, true, nil},
		{api.Automaton{States: 1}, api.Automaton{States: 1, Marked: ints{0}}, false, nil},
	} {
		if same, w, e := minimal.Equivalent(c.a, c.b); e != api.OK || same != c.same || !slices.Equal(w, c.word) {
			t.Errorf("%d: Equivalent = %t, %v, %d", i, same, w, e)
		}
	}
}

// renumbered returns classes with other numbers.
func renumbered(r *rand.Rand, classes []int) []int {
	order := r.Perm(len(classes))
	var l []int
	for _, c := range classes {
		l = append(l, order[c])
	}
	return l
}

// P8.4
func TestMerge(t *testing.T) {
	r := rand.New(rand.NewSource(6))
	merges, conflicts := 0, 0
	check := func(a api.Automaton, classes []int) {
		m, e := minimal.Merge(a, classes)
		if !consistent(a, classes) {
			if e != api.ErrConflict || !automaton.Equal(m, api.Automaton{}) {
				t.Errorf("Merge(%v, %v) = %v, %d", a, classes, m, e)
			}
			conflicts++
			return
		}
		if want := merged(a, classes); e != api.OK || !automaton.Equal(m, want) {
			t.Errorf("Merge(%v, %v) = %v, %d, not %v", a, classes, m, e, want)
		}
		if same, w, e := minimal.Equivalent(a, m); e != api.OK || !same {
			t.Errorf("Merge(%v, %v) = %v differs by %v, %d", a, classes, m, w, e)
		}
		if m.States > 1 && m.States < a.States {
			merges++
		}
	}
	for _, a := range drawn(r) {
		check(a, renumbered(r, classesOf(a)))
		check(a, r.Perm(a.States))
		b, from := doubled(r, draw(r, 3, 3))
		check(b, renumbered(r, from))
		for range 4 {
			var classes []int
			for range a.States {
				classes = append(classes, r.Intn(1+r.Intn(a.States)))
			}
			check(a, classes)
			near := renumbered(r, classesOf(a))
			if len(near) > 0 {
				near[r.Intn(len(near))] = near[r.Intn(len(near))]
			}
			check(a, near)
		}
	}
	if merges < 200 || conflicts < 200 {
		t.Errorf("only %d merges, and %d conflicts", merges, conflicts)
	}
}

// P8.4: the chapter's example, each way in which classes are not consistent, and the errors in their order.
func TestExamplesOfMerge(t *testing.T) {
	a := api.Automaton{Alphabet: ints{0, 1}, States: 4, Edges: edges{{From: 0, Event: 0, To: 1}, {From: 1, Event: 0, To: 0}, {From: 2, Event: 1, To: 2}, {From: 3, Event: 0, To: 2}}}
	for i, c := range []struct {
		a       api.Automaton
		classes []int
		states  int
		e       api.Errno
	}{
		{example(), ints{0, 1, 1, 2}, 3, api.OK},
		{example(), ints{3, 0, 0, 1}, 3, api.OK},
		{example(), ints{3, 2, 1, 0}, 4, api.OK},
		{example(), ints{0, 1, 1, 1}, 0, api.ErrConflict},
		{example(), ints{0, 0, 1, 2}, 0, api.ErrConflict},
		{a, ints{0, 0, 1, 2}, 1, api.OK},
		{a, ints{0, 1, 2, 3}, 2, api.OK},
		{a, ints{0, 0, 0, 1}, 0, api.ErrConflict},
		{a, ints{0, 1, 2, 0}, 0, api.ErrConflict},
		{a, ints{0, 1, 2, 1}, 0, api.ErrConflict},
		{example(), ints{0, 1, 1}, 0, api.ErrSize},
		{example(), ints{0, 1, 1, 2, 2}, 0, api.ErrSize},
		{example(), ints{9, 9, 9}, 0, api.ErrSize},
		{example(), nil, 0, api.ErrSize},
		{example(), ints{0, 1, 1, 4}, 0, api.ErrRange},
		{example(), ints{0, 1, 1, -1}, 0, api.ErrRange},
		{example(), ints{0, 0, 0, 9}, 0, api.ErrRange},
		{example(), ints{math.MinInt, 0, 0, 0}, 0, api.ErrRange},
		{example(), ints{math.MaxInt, 0, 0, 0}, 0, api.ErrRange},
		{api.Automaton{Alphabet: ints{2}}, nil, 0, api.OK},
		{api.Automaton{Alphabet: ints{2}}, ints{0}, 0, api.ErrSize},
	} {
		m, e := minimal.Merge(c.a, c.classes)
		if e != c.e || m.States != c.states || e != api.OK && !automaton.Equal(m, api.Automaton{}) || e == api.OK && !slices.Equal(m.Alphabet, c.a.Alphabet) {
			t.Errorf("%d: Merge = %v, %d, not %d", i, m, e, c.e)
		}
	}
}

// P8.5
func TestConsequences(t *testing.T) {
	r := rand.New(rand.NewSource(7))
	equal, apart := 0, 0
	for _, a := range drawn(r) {
		m, _ := minimal.Minimize(a)
		if n, e := minimal.Minimize(m); e != api.OK || !automaton.Equal(m, n) {
			t.Errorf("the minimal automaton of %v is %v, %d", m, n, e)
		}
		if same, w, e := minimal.Equivalent(a, m); e != api.OK || !same {
			t.Errorf("Minimize(%v) = %v differs by %v, %d", a, m, w, e)
		}
		classes, _ := minimal.Classes(a)
		reachable, _ := reach.Reachable(a)
		occur := map[int]bool{}
		for _, s := range reachable {
			occur[classes[s]] = true
		}
		if m.States != len(occur) {
			t.Errorf("Minimize(%v) = %v, but %d classes can be reached", a, m, len(occur))
		}
		b, _ := doubled(r, a)
		c, _ := doubled(r, a)
		c.Marked = some(r, c.States, 2)
		for _, b := range []api.Automaton{b, c} {
			n, _ := minimal.Minimize(b)
			same, _, e := minimal.Equivalent(a, b)
			if e != api.OK || same != automaton.Equal(m, n) {
				t.Errorf("%v and %v are equivalent %t, %d, but their minimal automata are %v and %v", a, b, same, e, m, n)
			}
			if same {
				equal++
			} else {
				apart++
			}
		}
		for x := range a.States {
			for y := range x {
				if w, _, _ := minimal.Distinguish(a, x, y); len(w) > a.States-1 {
					t.Errorf("Distinguish(%v, %d, %d) = %v is long", a, x, y, w)
				}
			}
		}
	}
	if equal < 200 || apart < 200 {
		t.Errorf("only %d pairs are equivalent, %d are not", equal, apart)
	}
}

// call is the error that a function has returned, and whether all its other results are zero values.
type call struct {
	name  string
	e     api.Errno
	empty bool
}

// calls calls all functions with the same automaton.
func calls(a api.Automaton, x int, classes []int) []call {
	var l []call
	add := func(name string, e api.Errno, empty bool) { l = append(l, call{name, e, empty}) }
	set, e := minimal.Classes(a)
	add("Classes", e, len(set) == 0)
	m, e := minimal.Minimize(a)
	add("Minimize", e, automaton.Equal(m, api.Automaton{}))
	is, e := minimal.IsMinimal(a)
	add("IsMinimal", e, !is)
	w, found, e := minimal.Distinguish(a, x, x)
	add("Distinguish", e, len(w) == 0 && !found)
	same, w, e := minimal.Equivalent(a, example())
	add("Equivalent", e, len(w) == 0 && !same)
	same, w, e = minimal.Equivalent(example(), a)
	add("Equivalent", e, len(w) == 0 && !same)
	m, e = minimal.Merge(a, classes)
	add("Merge", e, automaton.Equal(m, api.Automaton{}))
	return l
}

// All functions return the error of automaton.Check first, and nothing else with it; Equivalent that of its first automaton.
func TestErrorOfCheckFirst(t *testing.T) {
	bad := []api.Automaton{
		{Alphabet: ints{32}},
		{Alphabet: ints{-1}, States: -1},
		{Alphabet: ints{1, 1}},
		{States: -1},
		{States: math.MinInt},
		{States: api.MaxStates + 1},
		{States: math.MaxInt, Marked: ints{0}},
		{States: 2, Marked: ints{2}},
		{States: 2, Marked: ints{1, 0}},
		{Alphabet: ints{3}, States: 2, Edges: edges{{From: 0, Event: 3, To: 2}}},
		{Alphabet: ints{3}, States: 2, Edges: edges{{From: 0, Event: 2, To: 1}}},
		{Alphabet: ints{3}, States: 2, Edges: edges{{From: 1, Event: 3, To: 1}, {From: 0, Event: 3, To: 0}}},
	}
	for i, a := range bad {
		want := automaton.Check(a)
		if want == api.OK {
			t.Fatalf("%d: %v is an automaton", i, a)
		}
		for _, x := range []int{0, -1, 9999} {
			for _, classes := range [][]int{nil, {0, 0}, {9, -9}} {
				for _, c := range calls(a, x, classes) {
					if c.e != want || !c.empty {
						t.Errorf("%d: %s(%d, %v): %d, not %d", i, c.name, x, classes, c.e, want)
					}
				}
			}
		}
		for _, b := range bad {
			if same, w, e := minimal.Equivalent(a, b); e != want || same || len(w) > 0 {
				t.Errorf("%d: Equivalent: %d, not %d", i, e, want)
			}
		}
	}
}

// Automata with many states, also such as many pairs of states can be reached in.
func TestLargeAutomata(t *testing.T) {
	const n = api.MaxStates
	line := chain(n)
	if m, e := minimal.Minimize(line); e != api.OK || !automaton.Equal(m, line) {
		t.Errorf("Minimize of a chain: %d states, %d", m.States, e)
	}
	if w, found, e := minimal.Distinguish(line, 0, 1); e != api.OK || !found || len(w) != n-1 {
		t.Errorf("Distinguish in a chain: %d events, %t, %d", len(w), found, e)
	}
	circle := ring(n)
	if m, e := minimal.Minimize(circle); e != api.OK || m.States != 1 {
		t.Errorf("Minimize of a ring: %d states, %d", m.States, e)
	}
	circle.Marked = ints{n - 1}
	if is, e := minimal.IsMinimal(circle); e != api.OK || !is {
		t.Errorf("IsMinimal of a ring: %t, %d", is, e)
	}
	if same, w, e := minimal.Equivalent(ring(1024), ring(1021)); e != api.OK || !same {
		t.Errorf("Equivalent of rings: %t, %d events, %d", same, len(w), e)
	}
	if same, w, e := minimal.Equivalent(circle, circle); e != api.OK || !same {
		t.Errorf("Equivalent of rings: %t, %d events, %d", same, len(w), e)
	}
	if same, w, e := minimal.Equivalent(circle, line); e != api.OK || same || len(w) != n-1 {
		t.Errorf("Equivalent of a ring and a chain: %t, %d events, %d", same, len(w), e)
	}
	full := api.Automaton{States: n}
	for x := range api.MaxEvents {
		full.Alphabet = append(full.Alphabet, x)
	}
	zeros := make([]int, n)
	for s := range n {
		for x := range api.MaxEvents {
			full.Edges = append(full.Edges, api.Edge{From: s, Event: x, To: (s*31 + x) % n})
		}
	}
	if classes, e := minimal.Classes(full); e != api.OK || !slices.Equal(classes, zeros) {
		t.Errorf("Classes of a full automaton: %d", e)
	}
	if m, e := minimal.Merge(full, zeros); e != api.OK || m.States != 1 || len(m.Edges) != api.MaxEvents {
		t.Errorf("Merge of a full automaton: %d states, %d", m.States, e)
	}
	grid, _, _ := product.Synchronous([]api.Automaton{chain(64), relabelled(chain(64), 1)})
	if m, e := minimal.Minimize(grid); e != api.OK || m.States != n {
		t.Errorf("Minimize of a grid: %d states, %d", m.States, e)
	}
	if w, found, e := minimal.Distinguish(grid, 0, 1); e != api.OK || !found || len(w) != 63 || slices.Max(w) != 0 {
		t.Errorf("Distinguish in a grid: %v, %t, %d", w, found, e)
	}
}

func relabelled(a api.Automaton, to ...int) api.Automaton {
	b, _ := automaton.Relabel(a, to)
	return b
}

// Neither arguments are changed, nor do results share memory with them.
func TestArgumentsAreKept(t *testing.T) {
	a := example()
	classes := ints{0, 1, 2, 3}
	for range 2 {
		b, _ := minimal.Merge(a, classes)
		c, _ := minimal.Minimize(chain(3))
		d, _ := minimal.Minimize(a)
		for _, x := range []api.Automaton{b, c, d} {
			for i := range x.Edges {
				x.Edges[i] = api.Edge{From: -7}
			}
			scribble(x.Alphabet, x.Marked)
		}
		x, _ := minimal.Classes(a)
		y, _, _ := minimal.Distinguish(a, 0, 1)
		_, z, _ := minimal.Equivalent(a, chain(2))
		scribble(x, y, z)
	}
	if !automaton.Equal(a, example()) || !slices.Equal(classes, ints{0, 1, 2, 3}) {
		t.Errorf("changed: %v, %v", a, classes)
	}
}

func scribble(l ...[]int) {
	for _, set := range l {
		for i := range set {
			set[i] = -7
		}
	}
}

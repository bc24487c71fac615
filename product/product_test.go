package product_test

import (
	"math"
	"math/rand"
	"slices"
	"testing"

	"overseer/api"
	"overseer/automaton"
	"overseer/product"
	"overseer/word"
)

type (
	edges = []api.Edge
	ints  = []int
	list  = []api.Automaton
)

// example is the list of the chapter's first example.
func example() list {
	return list{
		{Alphabet: ints{0, 1}, States: 2, Marked: ints{0}, Edges: edges{{From: 0, Event: 0, To: 1}, {From: 1, Event: 1, To: 0}}},
		{Alphabet: ints{1, 2}, States: 2, Marked: ints{0}, Edges: edges{{From: 0, Event: 1, To: 1}, {From: 1, Event: 2, To: 0}}},
	}
}

// ring returns an automaton with one event, which leads through n states and back.
func ring(n, event int) api.Automaton {
	a := api.Automaton{Alphabet: ints{event}, States: n, Marked: ints{0}}
	for s := range n {
		a.Edges = append(a.Edges, api.Edge{From: s, Event: event, To: (s + 1) % n})
	}
	return a
}

// rings returns rings with different events.
func rings(sizes ...int) list {
	var l list
	for i, n := range sizes {
		l = append(l, ring(n, i))
	}
	return l
}

// some draws the sequence of numbers below n, each with the chance of one in few.
func some(r *rand.Rand, n, few int) []int {
	var set []int
	for x := range n {
		if r.Intn(few) == 0 {
			set = append(set, x)
		}
	}
	return set
}

// draw draws an automaton with some of 5 events.
func draw(r *rand.Rand) api.Automaton {
	a := api.Automaton{Alphabet: some(r, 5, 1+r.Intn(3)), States: 1 + r.Intn(4)}
	if r.Intn(25) == 0 {
		a.States = 0
	}
	a.Marked = some(r, a.States, 1+r.Intn(2))
	dense := 2 + r.Intn(5)
	for s := range a.States {
		for _, x := range a.Alphabet {
			if r.Intn(6) < dense {
				a.Edges = append(a.Edges, api.Edge{From: s, Event: x, To: r.Intn(a.States)})
			}
		}
	}
	return a
}

// drawn returns special lists, and many small ones that are drawn in a fixed way.
func drawn(r *rand.Rand) []list {
	l := []list{nil, {{}}, {{Alphabet: ints{31}, States: 1, Marked: ints{0}}}, example(), rings(3, 4, 5), {example()[0], example()[0]}, {example()[1], {Alphabet: ints{7}}, example()[0]}}
	for range 500 {
		var x list
		for range r.Intn(5) {
			x = append(x, draw(r))
		}
		l = append(l, x)
	}
	return l
}

// events is the union of the alphabets, by its definition.
func events(l list) []int {
	var set []int
	for x := range api.MaxEvents {
		if slices.ContainsFunc(l, func(a api.Automaton) bool { return slices.Contains(a.Alphabet, x) }) {
			set = append(set, x)
		}
	}
	return set
}

func hasInitial(l list) bool {
	return !slices.ContainsFunc(l, func(a api.Automaton) bool { return a.States == 0 })
}

// step is the next tuple and the automata that refuse an event, by their definitions.
func step(l list, tuple []int, event int) (next, refusers []int) {
	next = slices.Clone(tuple)
	for i, a := range l {
		if !slices.Contains(a.Alphabet, event) {
			continue
		}
		k := slices.IndexFunc(a.Edges, func(x api.Edge) bool { return x.From == tuple[i] && x.Event == event })
		if k < 0 {
			refusers = append(refusers, i)
		} else {
			next[i] = a.Edges[k].To
		}
	}
	return next, refusers
}

func marked(l list, tuple []int) bool {
	for i, a := range l {
		if !slices.Contains(a.Marked, tuple[i]) {
			return false
		}
	}
	return true
}

func indexOf(tuples [][]int, tuple []int) int {
	return slices.IndexFunc(tuples, func(t []int) bool { return slices.Equal(t, tuple) })
}

// composed is the synchronous product, by its definition.
func composed(l list) (api.Automaton, [][]int) {
	a := api.Automaton{Alphabet: events(l)}
	var tuples [][]int
	if hasInitial(l) {
		tuples = append(tuples, make([]int, len(l)))
	}
	for n := 0; n < len(tuples); n++ {
		if marked(l, tuples[n]) {
			a.Marked = append(a.Marked, n)
		}
		for _, x := range a.Alphabet {
			next, refusers := step(l, tuples[n], x)
			if len(refusers) > 0 {
				continue
			}
			if indexOf(tuples, next) < 0 {
				tuples = append(tuples, next)
			}
			a.Edges = append(a.Edges, api.Edge{From: n, Event: x, To: indexOf(tuples, next)})
		}
	}
	a.States = len(tuples)
	return a, tuples
}

// P6.1
func TestCheck(t *testing.T) {
	bad, worse := api.Automaton{Alphabet: ints{1, 0}}, api.Automaton{States: -1}
	for i, c := range []struct {
		l list
		e api.Errno
	}{
		{nil, api.OK},
		{list{}, api.OK},
		{example(), api.OK},
		{make(list, api.MaxAutomata), api.OK},
		{make(list, api.MaxAutomata+1), api.ErrLimit},
		{append(list{bad}, make(list, api.MaxAutomata)...), api.ErrLimit},
		{list{bad}, api.ErrOrder},
		{list{{}, bad, worse}, api.ErrOrder},
		{list{{}, worse, bad}, api.ErrRange},
		{append(make(list, api.MaxAutomata-1), bad), api.ErrOrder},
		{list{{States: api.MaxStates + 1}}, api.ErrLimit},
		{list{{Alphabet: ints{2}, States: 1, Edges: edges{{From: 0, Event: 3, To: 0}}}}, api.ErrUnknown},
		{list{{States: 1, Marked: ints{1}}}, api.ErrRange},
	} {
		if e := product.Check(c.l); e != c.e {
			t.Errorf("%d: %d, not %d", i, e, c.e)
		}
	}
}

// P6.1
func TestAlphabet(t *testing.T) {
	for _, l := range append(drawn(rand.New(rand.NewSource(1))), list{{Alphabet: ints{3, 31}}, {Alphabet: ints{0, 3, 7}}, {}}) {
		if set, e := product.Alphabet(l); e != api.OK || !slices.Equal(set, events(l)) {
			t.Errorf("Alphabet(%v) = %v, %d", l, set, e)
		}
	}
}

// P6.2
func TestSynchronous(t *testing.T) {
	large := 0
	for _, l := range drawn(rand.New(rand.NewSource(2))) {
		want, order := composed(l)
		a, tuples, e := product.Synchronous(l)
		if e != api.OK || !automaton.Equal(a, want) || !slices.EqualFunc(tuples, order, slices.Equal[ints]) {
			t.Errorf("Synchronous(%v) = %v, %v, %d, not %v, %v", l, a, tuples, e, want, order)
		}
		if !automaton.IsCanonical(a) {
			t.Errorf("Synchronous(%v) = %v is not canonical", l, a)
		}
		if b, e := product.Compose(l...); e != api.OK || !automaton.Equal(b, want) {
			t.Errorf("Compose(%v) = %v, %d, not %v", l, b, e, want)
		}
		if a.States > 5 && len(l) > 2 {
			large++
		}
	}
	if large < 20 {
		t.Errorf("only %d products are large", large)
	}
}

// P6.2: the chapter's examples.
func TestExamplesOfSynchronous(t *testing.T) {
	a, tuples, e := product.Synchronous(example())
	want := api.Automaton{Alphabet: ints{0, 1, 2}, States: 4, Marked: ints{0}, Edges: edges{{From: 0, Event: 0, To: 1}, {From: 1, Event: 1, To: 2}, {From: 2, Event: 0, To: 3}, {From: 2, Event: 2, To: 0}, {From: 3, Event: 2, To: 1}}}
	if e != api.OK || !automaton.Equal(a, want) || !slices.EqualFunc(tuples, [][]int{{0, 0}, {1, 0}, {0, 1}, {1, 1}}, slices.Equal[ints]) {
		t.Errorf("Synchronous = %v, %v, %d", a, tuples, e)
	}
	one := api.Automaton{States: 1, Marked: ints{0}}
	if a, e := product.Compose(); e != api.OK || !automaton.Equal(a, one) {
		t.Errorf("Compose of no automata = %v, %d", a, e)
	}
	if a, tuples, e := product.Synchronous(nil); e != api.OK || !automaton.Equal(a, one) || len(tuples) != 1 || len(tuples[0]) != 0 {
		t.Errorf("Synchronous of no automata = %v, %v, %d", a, tuples, e)
	}
	empty := api.Automaton{Alphabet: ints{0, 1, 2, 9}}
	if a, tuples, e := product.Synchronous(append(example(), api.Automaton{Alphabet: ints{9}})); e != api.OK || !automaton.Equal(a, empty) || len(tuples) != 0 {
		t.Errorf("Synchronous with an empty automaton = %v, %v, %d", a, tuples, e)
	}
}

// P6.2: as many tuples as possible, one more, and far more; a state that is not reached does not count.
func TestLimitOfTuples(t *testing.T) {
	twelve := make([]int, api.MaxAutomata)
	vast := make([]int, api.MaxAutomata)
	for i := range twelve {
		twelve[i], vast[i] = 2, api.MaxStates
	}
	unreached := list{{States: api.MaxStates, Alphabet: ints{0}, Edges: edges{{From: 0, Event: 0, To: 9}}}, {States: api.MaxStates}}
	for i, c := range []struct {
		l      list
		states int
		e      api.Errno
	}{
		{rings(64, 64), 4096, api.OK},
		{rings(17, 241), 0, api.ErrLimit},
		{rings(4096), 4096, api.OK},
		{rings(4096, 2), 0, api.ErrLimit},
		{rings(twelve...), 4096, api.OK},
		{rings(vast...), 0, api.ErrLimit},
		{unreached, 2, api.OK},
	} {
		a, tuples, e := product.Synchronous(c.l)
		if e != c.e || a.States != c.states || len(tuples) != c.states || e != api.OK && !automaton.Equal(a, api.Automaton{}) {
			t.Errorf("%d: Synchronous: %d states, %d tuples, %d", i, a.States, len(tuples), e)
		}
		if a, e := product.Compose(c.l...); e != c.e || a.States != c.states || e != api.OK && !automaton.Equal(a, api.Automaton{}) {
			t.Errorf("%d: Compose: %d states, %d", i, a.States, e)
		}
	}
}

// looped returns an automaton that has a further event, which leads from each state to itself.
func looped(a api.Automaton, event int) api.Automaton {
	a.Alphabet = slices.Sorted(slices.Values(append(slices.Clone(a.Alphabet), event)))
	a.Edges = slices.Clone(a.Edges)
	for s := range a.States {
		a.Edges = append(a.Edges, api.Edge{From: s, Event: event, To: s})
	}
	slices.SortFunc(a.Edges, func(x, y api.Edge) int { return slices.Compare(ints{x.From, x.Event}, ints{y.From, y.Event}) })
	return a
}

// P6.3
func TestMeet(t *testing.T) {
	r := rand.New(rand.NewSource(3))
	met, apart := 0, 0
	for range 2000 {
		a, b := draw(r), draw(r)
		want, _ := composed(list{a, b})
		wantError := api.OK
		if !slices.Equal(a.Alphabet, b.Alphabet) {
			want, wantError = api.Automaton{}, api.ErrConflict
			apart++
		} else if want.States > 1 {
			met++
		}
		if m, e := product.Meet(a, b); e != wantError || !automaton.Equal(m, want) {
			t.Errorf("Meet(%v, %v) = %v, %d, not %v, %d", a, b, m, e, want, wantError)
		}
	}
	if met < 20 || apart < 20 {
		t.Errorf("only %d pairs have a product, %d have none", met, apart)
	}
}

// P6.3: the errors in their order.
func TestErrorsOfMeet(t *testing.T) {
	bad, worse := api.Automaton{Alphabet: ints{1, 0}}, api.Automaton{States: -1}
	for i, c := range []struct {
		a, b api.Automaton
		e    api.Errno
	}{
		{bad, worse, api.ErrOrder},
		{worse, bad, api.ErrRange},
		{example()[0], bad, api.ErrOrder},
		{example()[0], example()[1], api.ErrConflict},
		{api.Automaton{}, api.Automaton{Alphabet: ints{0}}, api.ErrConflict},
		{ring(17, 0), ring(241, 1), api.ErrConflict},
		{looped(ring(17, 0), 1), looped(ring(241, 1), 0), api.ErrLimit},
		{looped(ring(64, 0), 1), looped(ring(64, 1), 0), api.OK},
		{api.Automaton{}, api.Automaton{Alphabet: ints{}}, api.OK},
		{ring(16, 0), ring(241, 0), api.OK},
	} {
		if a, e := product.Meet(c.a, c.b); e != c.e || e != api.OK && !automaton.Equal(a, api.Automaton{}) {
			t.Errorf("%d: Meet: %d, not %d", i, e, c.e)
		}
	}
}

// drawTuple draws a tuple of a list without empty automata.
func drawTuple(r *rand.Rand, l list) []int {
	var tuple []int
	for _, a := range l {
		tuple = append(tuple, r.Intn(a.States))
	}
	return tuple
}

// P6.4
func TestTuples(t *testing.T) {
	r := rand.New(rand.NewSource(4))
	refused, stayed := 0, 0
	for _, l := range drawn(r) {
		if !hasInitial(l) {
			continue
		}
		for range 3 {
			tuple := drawTuple(r, l)
			var enabled []int
			for _, x := range events(l) {
				next, refusers := step(l, tuple, x)
				possible := len(refusers) == 0
				if possible {
					enabled = append(enabled, x)
					stayed++
				} else {
					next = nil
					refused++
				}
				if s, is, e := product.Step(l, tuple, x); e != api.OK || is != possible || !slices.Equal(s, next) {
					t.Errorf("Step(%v, %v, %d) = %v, %t, %d", l, tuple, x, s, is, e)
				}
				if set, e := product.Refusers(l, tuple, x); e != api.OK || !slices.Equal(set, refusers) {
					t.Errorf("Refusers(%v, %v, %d) = %v, %d", l, tuple, x, set, e)
				}
			}
			if set, e := product.Enabled(l, tuple); e != api.OK || !slices.Equal(set, enabled) {
				t.Errorf("Enabled(%v, %v) = %v, %d", l, tuple, set, e)
			}
			if is, e := product.Marked(l, tuple); e != api.OK || is != marked(l, tuple) {
				t.Errorf("Marked(%v, %v) = %t, %d", l, tuple, is, e)
			}
		}
	}
	if refused < 200 || stayed < 200 {
		t.Errorf("only %d events are refused, %d are possible", refused, stayed)
	}
}

// P6.4: the chapter's example, events that are refused by several automata, and the tuple of no automata.
func TestExamplesOfTuples(t *testing.T) {
	l := example()
	if set, e := product.Enabled(l, ints{0, 0}); e != api.OK || !slices.Equal(set, ints{0}) {
		t.Errorf("Enabled = %v, %d", set, e)
	}
	for x, want := range [][]int{{}, {0}, {1}} {
		if set, e := product.Refusers(l, ints{0, 0}, x); e != api.OK || !slices.Equal(set, want) {
			t.Errorf("Refusers of %d = %v, %d", x, set, e)
		}
	}
	if set, e := product.Refusers(l, ints{0, 1}, 1); e != api.OK || !slices.Equal(set, ints{0, 1}) {
		t.Errorf("Refusers = %v, %d", set, e)
	}
	if next, is, e := product.Step(l, ints{1, 0}, 1); e != api.OK || !is || !slices.Equal(next, ints{0, 1}) {
		t.Errorf("Step = %v, %t, %d", next, is, e)
	}
	if next, is, e := product.Step(l, ints{1, 1}, 2); e != api.OK || !is || !slices.Equal(next, ints{1, 0}) {
		t.Errorf("Step = %v, %t, %d", next, is, e)
	}
	if next, is, e := product.Step(l, ints{1, 1}, 1); e != api.OK || is || len(next) != 0 {
		t.Errorf("Step = %v, %t, %d", next, is, e)
	}
	if is, e := product.Marked(nil, nil); e != api.OK || !is {
		t.Errorf("Marked of no automata = %t, %d", is, e)
	}
	if set, e := product.Enabled(nil, nil); e != api.OK || len(set) != 0 {
		t.Errorf("Enabled of no automata = %v, %d", set, e)
	}
	if _, _, e := product.Step(nil, nil, 0); e != api.ErrUnknown {
		t.Errorf("Step of no automata: %d", e)
	}
	many := make(list, api.MaxAutomata)
	all := make([]int, api.MaxAutomata)
	for i := range many {
		many[i], all[i] = api.Automaton{Alphabet: ints{31}, States: 1}, i
	}
	if set, e := product.Refusers(many, make([]int, api.MaxAutomata), 31); e != api.OK || !slices.Equal(set, all) {
		t.Errorf("Refusers of many = %v, %d", set, e)
	}
}

// P6.5
func TestRun(t *testing.T) {
	r := rand.New(rand.NewSource(5))
	whole, part := 0, 0
	for _, l := range drawn(r) {
		set := events(l)
		if !hasInitial(l) || len(set) == 0 {
			continue
		}
		for range 5 {
			var w []int
			for range r.Intn(7) {
				w = append(w, set[r.Intn(len(set))])
			}
			tuple, done := make([]int, len(l)), 0
			for _, x := range w {
				next, refusers := step(l, tuple, x)
				if len(refusers) > 0 {
					break
				}
				tuple, done = next, done+1
			}
			if s, n, e := product.Run(l, w); e != api.OK || n != done || !slices.Equal(s, tuple) {
				t.Errorf("Run(%v, %v) = %v, %d, %d, not %v, %d", l, w, s, n, e, tuple, done)
			}
			if done == len(w) {
				whole++
			} else if done > 0 {
				part++
			}
		}
	}
	if whole < 100 || part < 100 {
		t.Errorf("only %d words run wholly, %d in part", whole, part)
	}
}

// P6.5: words without events, long words, events that nobody knows behind those that are refused, and no initial tuple.
func TestRunOfSpecialWords(t *testing.T) {
	l := example()
	for i, c := range []struct {
		l     list
		word  []int
		tuple []int
		done  int
		e     api.Errno
	}{
		{l, nil, ints{0, 0}, 0, api.OK},
		{l, ints{0, 1, 0, 1, 2}, ints{1, 1}, 3, api.OK},
		{l, ints{1}, ints{0, 0}, 0, api.OK},
		{l, ints{0, 3}, nil, 0, api.ErrUnknown},
		{l, ints{1, 3}, nil, 0, api.ErrUnknown},
		{l, ints{-1}, nil, 0, api.ErrUnknown},
		{l, ints{0, math.MaxInt}, nil, 0, api.ErrUnknown},
		{nil, nil, nil, 0, api.OK},
		{nil, ints{0}, nil, 0, api.ErrUnknown},
		{append(l, api.Automaton{}), nil, nil, 0, api.ErrEmpty},
		{append(l, api.Automaton{}), ints{7}, nil, 0, api.ErrEmpty},
		{list{{Alphabet: ints{0}}}, ints{0}, nil, 0, api.ErrEmpty},
		{list{{}, {States: -1}}, ints{7}, nil, 0, api.ErrRange},
		{rings(5, 7), slices.Repeat(ints{0, 1, 1}, 5001), ints{1, 6}, 15003, api.OK},
	} {
		if s, n, e := product.Run(c.l, c.word); e != c.e || n != c.done || !slices.Equal(s, c.tuple) {
			t.Errorf("%d: Run = %v, %d, %d", i, s, n, e)
		}
	}
}

// P6.6
func TestFind(t *testing.T) {
	tuples := [][]int{{0, 0}, {1, 0}, {1}, {0, 1}, {1, 0}, {}, {1, 0, 0}, {-5, 99}}
	for i, c := range []struct {
		tuples [][]int
		tuple  []int
		n      int
		found  bool
	}{
		{tuples, ints{0, 0}, 0, true},
		{tuples, ints{1, 0}, 1, true},
		{tuples, ints{1}, 2, true},
		{tuples, ints{0, 1}, 3, true},
		{tuples, nil, 5, true},
		{tuples, ints{1, 0, 0}, 6, true},
		{tuples, ints{-5, 99}, 7, true},
		{tuples, ints{1, 1}, 0, false},
		{tuples, ints{0}, 0, false},
		{tuples, ints{0, 0, 0}, 0, false},
		{nil, nil, 0, false},
		{nil, ints{0}, 0, false},
		{[][]int{nil}, ints{}, 0, true},
	} {
		if n, found := product.Find(c.tuples, c.tuple); n != c.n || found != c.found {
			t.Errorf("%d: Find = %d, %t", i, n, found)
		}
	}
	for _, l := range drawn(rand.New(rand.NewSource(6))) {
		_, tuples, _ := product.Synchronous(l)
		for n, tuple := range tuples {
			if k, found := product.Find(tuples, tuple); k != n || !found {
				t.Errorf("Find of the tuple %d = %d, %t", n, k, found)
			}
		}
	}
}

// P6.7: orders, parentheses, the product with itself and that of no automata.
func TestProductsAgree(t *testing.T) {
	r := rand.New(rand.NewSource(7))
	none, _ := product.Compose()
	for _, l := range drawn(r) {
		a, tuples, e := product.Synchronous(l)
		order := r.Perm(len(l))
		var turned list
		for _, i := range order {
			turned = append(turned, l[i])
		}
		b, others, f := product.Synchronous(turned)
		if e != api.OK || f != api.OK || !automaton.Equal(a, b) {
			t.Errorf("the products of %v in the order %v are %v and %v", l, order, a, b)
		}
		for n := range tuples {
			for k, i := range order {
				if others[n][k] != tuples[n][i] {
					t.Fatalf("the tuples of %v in the order %v are %v and %v", l, order, tuples, others)
				}
			}
		}
		cut := r.Intn(len(l) + 1)
		left, _ := product.Compose(l[:cut]...)
		right, _ := product.Compose(l[cut:]...)
		if b, e := product.Compose(left, right); e != api.OK || !automaton.Equal(a, b) {
			t.Errorf("the product of %v, cut at %d, is %v, not %v", l, cut, b, a)
		}
		if b, e := product.Compose(a, a); e != api.OK || !automaton.Equal(a, b) {
			t.Errorf("the product of %v with itself is %v, %d", a, b, e)
		}
		if b, e := product.Meet(a, a); e != api.OK || !automaton.Equal(a, b) {
			t.Errorf("Meet of %v with itself is %v, %d", a, b, e)
		}
		for _, x := range l {
			c, _ := automaton.Canonical(x)
			if b, e := product.Compose(none, x); e != api.OK || !automaton.Equal(b, c) {
				t.Errorf("the product of %v with that of no automata is %v, %d", x, b, e)
			}
		}
	}
}

// P6.7: a word is generated, or marked, exactly if each automaton generates, or marks, its projection.
func TestLanguagesOfProducts(t *testing.T) {
	r := rand.New(rand.NewSource(8))
	generated, accepted := 0, 0
	for _, l := range drawn(r) {
		a, _, _ := product.Synchronous(l)
		for range 20 {
			var w []int
			for range r.Intn(5) {
				w = append(w, r.Intn(5))
			}
			if len(word.Project(w, a.Alphabet)) < len(w) {
				continue
			}
			all, allMarked := true, true
			for _, x := range l {
				part := word.Project(w, x.Alphabet)
				is, _ := automaton.Generates(x, part)
				isMarked, _ := automaton.Accepts(x, part)
				all, allMarked = all && is, allMarked && isMarked
			}
			is, _ := automaton.Generates(a, w)
			isMarked, _ := automaton.Accepts(a, w)
			if is != all || isMarked != allMarked {
				t.Errorf("the product of %v: %v is generated %t, marked %t", l, w, is, isMarked)
			}
			if is && len(w) > 1 && len(l) > 1 {
				generated++
				if isMarked {
					accepted++
				}
			}
		}
	}
	if generated < 100 || accepted < 50 {
		t.Errorf("only %d words are generated, %d are marked", generated, accepted)
	}
}

// call is the error that a function has returned, and whether all its other results are zero values.
type call struct {
	name  string
	e     api.Errno
	empty bool
}

// calls calls all functions with a list, with the same arguments.
func calls(l list, tuple []int, event int) []call {
	var c []call
	add := func(name string, e api.Errno, empty bool) { c = append(c, call{name, e, empty}) }
	add("Check", product.Check(l), true)
	set, e := product.Alphabet(l)
	add("Alphabet", e, len(set) == 0)
	a, tuples, e := product.Synchronous(l)
	add("Synchronous", e, automaton.Equal(a, api.Automaton{}) && len(tuples) == 0)
	a, e = product.Compose(l...)
	add("Compose", e, automaton.Equal(a, api.Automaton{}))
	set, e = product.Enabled(l, tuple)
	add("Enabled", e, len(set) == 0)
	next, possible, e := product.Step(l, tuple, event)
	add("Step", e, len(next) == 0 && !possible)
	next, done, e := product.Run(l, ints{event})
	add("Run", e, len(next) == 0 && done == 0)
	is, e := product.Marked(l, tuple)
	add("Marked", e, !is)
	set, e = product.Refusers(l, tuple, event)
	add("Refusers", e, len(set) == 0)
	return c
}

// All functions with a list return the error of Check first, and nothing else with it.
func TestErrorOfCheckFirst(t *testing.T) {
	ok := example()[0]
	for i, l := range []list{
		make(list, api.MaxAutomata+1),
		{{Alphabet: ints{32}}},
		{ok, {Alphabet: ints{-1}}},
		{ok, {Alphabet: ints{3, 3}}},
		{ok, {States: -1}, {Alphabet: ints{3, 3}}},
		{ok, {States: math.MinInt}},
		{{States: math.MaxInt}, ok},
		{ok, {States: 2, Marked: ints{1, 1}}},
		{ok, {States: 2, Marked: ints{2}}},
		{ok, {Alphabet: ints{0}, States: 2, Edges: edges{{From: 0, Event: 1, To: 1}}}},
		{ok, {Alphabet: ints{0}, States: 2, Edges: edges{{From: 1, Event: 0, To: 1}, {From: 0, Event: 0, To: 1}}}},
		{ok, {Alphabet: ints{0}, States: 2, Edges: edges{{From: 1, Event: 0, To: 2}}}},
	} {
		want := api.ErrLimit
		if len(l) <= api.MaxAutomata {
			want = api.OK
			for _, a := range l {
				if want == api.OK {
					want = automaton.Check(a)
				}
			}
		}
		if want == api.OK {
			t.Fatalf("%d: %v is a list", i, l)
		}
		for _, tuple := range [][]int{nil, {0, 0}, {9, 9}, {-1}} {
			for _, x := range []int{0, -1, 99} {
				for _, c := range calls(l, tuple, x) {
					if c.e != want || !c.empty {
						t.Errorf("%d: %s(%v, %d): %d, not %d", i, c.name, tuple, x, c.e, want)
					}
				}
			}
		}
	}
}

// The errors of tuples, and then those of events.
func TestErrorsOfTuples(t *testing.T) {
	l := append(example(), api.Automaton{Alphabet: ints{5}, States: 3, Edges: edges{{From: 2, Event: 5, To: 2}}})
	for _, c := range []struct {
		tuple  []int
		event  int
		e, and api.Errno
	}{
		{nil, 0, api.ErrSize, api.ErrSize},
		{ints{0, 0}, 0, api.ErrSize, api.ErrSize},
		{ints{0, 0, 0, 0}, 0, api.ErrSize, api.ErrSize},
		{ints{9, 0}, 99, api.ErrSize, api.ErrSize},
		{make([]int, 100), 0, api.ErrSize, api.ErrSize},
		{ints{2, 0, 0}, 0, api.ErrRange, api.ErrRange},
		{ints{0, -1, 0}, 0, api.ErrRange, api.ErrRange},
		{ints{0, 2, 0}, 99, api.ErrRange, api.ErrRange},
		{ints{0, 0, 3}, 0, api.ErrRange, api.ErrRange},
		{ints{0, 0, math.MaxInt}, -1, api.ErrRange, api.ErrRange},
		{ints{0, math.MinInt, 0}, -1, api.ErrRange, api.ErrRange},
		{ints{1, 1, 2}, 3, api.OK, api.ErrUnknown},
		{ints{1, 1, 2}, -1, api.OK, api.ErrUnknown},
		{ints{1, 1, 2}, 31, api.OK, api.ErrUnknown},
		{ints{1, 1, 2}, 32, api.OK, api.ErrUnknown},
		{ints{1, 1, 2}, math.MinInt, api.OK, api.ErrUnknown},
		{ints{1, 1, 2}, 5, api.OK, api.OK},
	} {
		for _, x := range calls(l, c.tuple, c.event) {
			want := api.OK
			switch x.name {
			case "Enabled", "Marked":
				want = c.e
			case "Step", "Refusers":
				want = c.and
			default:
				continue
			}
			if x.e != want || want != api.OK && !x.empty {
				t.Errorf("%s(%v, %d): %d, not %d", x.name, c.tuple, c.event, x.e, want)
			}
		}
	}
	empty := list{{Alphabet: ints{0}}}
	for _, x := range calls(empty, ints{0}, 0) {
		want := api.OK
		switch x.name {
		case "Enabled", "Marked", "Step", "Refusers":
			want = api.ErrRange
		case "Run":
			want = api.ErrEmpty
		}
		if x.e != want {
			t.Errorf("%s with the empty automaton: %d, not %d", x.name, x.e, want)
		}
	}
}

// Neither arguments are changed, nor do results share memory with them or with each other.
func TestArgumentsAreKept(t *testing.T) {
	l := append(example(), ring(3, 5))
	copied := append(example(), ring(3, 5))
	tuple := ints{1, 0, 2}
	for range 2 {
		a, tuples, _ := product.Synchronous(l)
		b, _ := product.Compose(l[:1]...)
		c, _ := product.Meet(l[0], l[0])
		for _, x := range []api.Automaton{a, b, c} {
			for i := range x.Edges {
				x.Edges[i] = api.Edge{From: -7}
			}
			scribble(x.Alphabet, x.Marked)
		}
		_, want := composed(l)
		for n := range tuples {
			if !slices.Equal(tuples[n], want[n]) {
				t.Errorf("the tuple %d is %v, not %v", n, tuples[n], want[n])
			}
			scribble(append(tuples[n], 0))
		}
		set, _ := product.Alphabet(l[:1])
		next, _, _ := product.Step(l, tuple, 5)
		last, _, _ := product.Run(l, ints{5})
		enabled, _ := product.Enabled(l, tuple)
		refusers, _ := product.Refusers(l, tuple, 0)
		scribble(set, next, last, enabled, refusers)
	}
	if !slices.EqualFunc(l, copied, automaton.Equal) || !slices.Equal(tuple, ints{1, 0, 2}) {
		t.Errorf("changed: %v, %v", l, tuple)
	}
}

func scribble(l ...[]int) {
	for _, set := range l {
		for i := range set {
			set[i] = -7
		}
	}
}

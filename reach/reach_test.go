package reach_test

import (
	"math"
	"math/rand"
	"slices"
	"testing"

	"overseer/api"
	"overseer/automaton"
	"overseer/reach"
)

type (
	edges = []api.Edge
	ints  = []int
)

// example is the automaton of the chapter's first example.
func example() api.Automaton {
	return api.Automaton{Alphabet: ints{0, 1}, States: 4, Marked: ints{1}, Edges: edges{{From: 0, Event: 0, To: 1}, {From: 0, Event: 1, To: 2}, {From: 1, Event: 0, To: 1}, {From: 2, Event: 0, To: 3}, {From: 3, Event: 1, To: 2}}}
}

// chain returns an automaton in which event 0 leads from each of n states to the next one, and ring one in which it also leads from the last state to the first one.
func chain(n int) api.Automaton {
	a := api.Automaton{Alphabet: ints{0}, States: n}
	for s := range n - 1 {
		a.Edges = append(a.Edges, api.Edge{From: s, Event: 0, To: s + 1})
	}
	return a
}

func ring(n int) api.Automaton {
	a := chain(n)
	a.Edges = append(a.Edges, api.Edge{From: n - 1, Event: 0, To: 0})
	return a
}

// some draws the sequence of numbers below n, each with the chance of one in few.
func some(r *rand.Rand, n, few int) []int {
	var set []int
	for x := range n {
		if r.Intn(few) == 0 {
			set = append(set, x)
		}
	}
	return set
}

// drawn returns the empty automaton, special ones, and many small ones that are drawn in a fixed way.
func drawn(r *rand.Rand) []api.Automaton {
	l := []api.Automaton{{}, {Alphabet: ints{0, 31}}, {States: 1}, {Alphabet: ints{4}, States: 2, Marked: ints{0, 1}}, example(), chain(5), ring(5)}
	for range 500 {
		a := api.Automaton{Alphabet: some(r, 4, 1+r.Intn(2)), States: 1 + r.Intn(7)}
		a.Marked = some(r, a.States, 1+r.Intn(4))
		dense := 1 + r.Intn(5)
		for s := range a.States {
			for _, x := range a.Alphabet {
				if r.Intn(6) < dense {
					a.Edges = append(a.Edges, api.Edge{From: s, Event: x, To: r.Intn(a.States)})
				}
			}
		}
		l = append(l, a)
	}
	return l
}

// numbers returns 0 to n - 1.
func numbers(n int) []int {
	set := make([]int, n)
	for i := range set {
		set[i] = i
	}
	return set
}

func before(a, b []int) bool {
	return len(a) < len(b) || len(a) == len(b) && slices.Compare(a, b) < 0
}

// leastWords returns the least word with some events that leads from a state to each other one within a set: words are made better by edges until none is.
func leastWords(a api.Automaton, from int, within, events []int) map[int][]int {
	least := map[int][]int{}
	if slices.Contains(within, from) {
		least[from] = []int{}
	}
	for changed := true; changed; {
		changed = false
		for _, x := range a.Edges {
			w, reached := least[x.From]
			if !reached || !slices.Contains(within, x.To) || !slices.Contains(events, x.Event) {
				continue
			}
			w = append(slices.Clone(w), x.Event)
			if old, is := least[x.To]; !is || before(w, old) {
				least[x.To], changed = w, true
			}
		}
	}
	return least
}

// words returns the least words that lead from each state to each other one.
func words(a api.Automaton) []map[int][]int {
	var l []map[int][]int
	for s := range a.States {
		l = append(l, leastWords(a, s, numbers(a.States), a.Alphabet))
	}
	return l
}

// restricted returns the canonical automaton of the states that are reached within a set: they are found in the order of their least words.
func restricted(a api.Automaton, keep []int) api.Automaton {
	least := leastWords(a, 0, keep, a.Alphabet)
	var order []int
	for s := range least {
		order = append(order, s)
	}
	slices.SortFunc(order, func(s, t int) int {
		if before(least[s], least[t]) {
			return -1
		}
		return 1
	})
	b := api.Automaton{Alphabet: a.Alphabet, States: len(order)}
	for n, s := range order {
		if slices.Contains(a.Marked, s) {
			b.Marked = append(b.Marked, n)
		}
		for _, x := range a.Edges {
			if x.From == s && slices.Contains(order, x.To) {
				b.Edges = append(b.Edges, api.Edge{From: n, Event: x.Event, To: slices.Index(order, x.To)})
			}
		}
	}
	return b
}

// P4.1
func TestStates(t *testing.T) {
	for _, a := range drawn(rand.New(rand.NewSource(1))) {
		least := words(a)
		var reachable, coreachable, dead []int
		for s := range a.States {
			if _, is := least[0][s]; is {
				reachable = append(reachable, s)
			}
			if slices.ContainsFunc(a.Marked, func(m int) bool { _, is := least[s][m]; return is }) {
				coreachable = append(coreachable, s)
			}
			if !slices.ContainsFunc(a.Edges, func(x api.Edge) bool { return x.From == s }) {
				dead = append(dead, s)
			}
		}
		for _, c := range []struct {
			name string
			f    func(api.Automaton) ([]int, api.Errno)
			want []int
		}{{"Reachable", reach.Reachable, reachable}, {"Coreachable", reach.Coreachable, coreachable}, {"Dead", reach.Dead, dead}} {
			if l, e := c.f(a); e != api.OK || !slices.Equal(l, c.want) {
				t.Errorf("%s(%v) = %v, %d, not %v", c.name, a, l, e, c.want)
			}
		}
	}
}

// P4.1 and P4.4: the chapter's examples.
func TestExampleOfStates(t *testing.T) {
	a := example()
	if l, e := reach.Reachable(a); e != api.OK || !slices.Equal(l, ints{0, 1, 2, 3}) {
		t.Errorf("Reachable = %v, %d", l, e)
	}
	if l, e := reach.Coreachable(a); e != api.OK || !slices.Equal(l, ints{0, 1}) {
		t.Errorf("Coreachable = %v, %d", l, e)
	}
	if l, e := reach.Dead(a); e != api.OK || len(l) != 0 {
		t.Errorf("Dead = %v, %d", l, e)
	}
	if l, e := reach.Components(a); e != api.OK || !slices.EqualFunc(l, []ints{{0}, {1}, {2, 3}}, slices.Equal[ints]) {
		t.Errorf("Components = %v, %d", l, e)
	}
}

// P4.2
func TestRestrict(t *testing.T) {
	r := rand.New(rand.NewSource(2))
	for _, a := range drawn(r) {
		for _, keep := range []ints{nil, numbers(a.States), some(r, a.States, 2), append(numbers(min(a.States, 1)), some(r, a.States, 2)...)} {
			slices.Sort(keep)
			keep = slices.Compact(keep)
			want := restricted(a, keep)
			b, e := reach.Restrict(a, keep)
			if e != api.OK || !automaton.Equal(b, want) {
				t.Fatalf("Restrict(%v, %v) = %v, %d, not %v", a, keep, b, e, want)
			}
			if !automaton.IsCanonical(b) || !slices.Contains(keep, 0) && b.States != 0 {
				t.Errorf("Restrict(%v, %v) = %v", a, keep, b)
			}
		}
	}
}

// P4.2, and what P4.7 says of trim automata.
func TestTrim(t *testing.T) {
	for _, a := range drawn(rand.New(rand.NewSource(3))) {
		coreachable, _ := reach.Coreachable(a)
		b, e := reach.Trim(a)
		if want := restricted(a, coreachable); e != api.OK || !automaton.Equal(b, want) {
			t.Fatalf("Trim(%v) = %v, %d, not %v", a, b, e, want)
		}
		if again, e := reach.Trim(b); e != api.OK || !automaton.Equal(again, b) {
			t.Errorf("Trim of %v = %v, %d", b, again, e)
		}
		p, _ := automaton.Words(a, 4, true)
		q, _ := automaton.Words(b, 4, true)
		if !slices.EqualFunc(p, q, slices.Equal[ints]) {
			t.Errorf("the marked words of %v and %v", a, b)
		}
	}
	want := api.Automaton{Alphabet: ints{0, 1}, States: 2, Marked: ints{1}, Edges: edges{{From: 0, Event: 0, To: 1}, {From: 1, Event: 0, To: 1}}}
	if b, e := reach.Trim(example()); e != api.OK || !automaton.Equal(b, want) {
		t.Errorf("Trim of the example = %v, %d", b, e)
	}
	unmarked := example()
	unmarked.Marked = nil
	if b, e := reach.Trim(unmarked); e != api.OK || !automaton.Equal(b, api.Automaton{Alphabet: ints{0, 1}}) {
		t.Errorf("Trim without marked states = %v, %d", b, e)
	}
}

// P4.3, and what P4.7 says of distances.
func TestDistances(t *testing.T) {
	r := rand.New(rand.NewSource(4))
	for _, a := range drawn(r) {
		least := words(a)
		for _, targets := range []ints{nil, numbers(a.States), a.Marked, some(r, a.States, 3)} {
			l, e := reach.Distances(a, targets)
			if e != api.OK || len(l) != a.States {
				t.Fatalf("Distances(%v, %v) = %v, %d", a, targets, l, e)
			}
			for s, n := range l {
				want := -1
				for _, x := range targets {
					if w, is := least[s][x]; is && (want < 0 || len(w) < want) {
						want = len(w)
					}
				}
				w, found, e := reach.Path(a, s, targets, numbers(a.States))
				if n != want || found != (n >= 0) || len(w) != max(n, 0) || e != api.OK || (n == 0) != slices.Contains(targets, s) {
					t.Errorf("Distances(%v, %v) from %d: %d, not %d; Path = %v, %t, %d", a, targets, s, n, want, w, found, e)
				}
			}
			checkNeighbours(t, a, targets, l)
		}
	}
	if l, e := reach.Distances(example(), ints{3}); e != api.OK || !slices.Equal(l, ints{2, -1, 1, 0}) {
		t.Errorf("Distances of the example = %v, %d", l, e)
	}
}

// checkNeighbours checks that a distance is one more than the least one of a state to which an edge leads.
func checkNeighbours(t *testing.T, a api.Automaton, targets, distances []int) {
	for s, n := range distances {
		if slices.Contains(targets, s) {
			continue
		}
		least := -1
		for _, x := range a.Edges {
			if d := distances[x.To]; x.From == s && d >= 0 && (least < 0 || d < least) {
				least = d
			}
		}
		if least >= 0 && n != least+1 || least < 0 && n != -1 {
			t.Errorf("%v, %v: the distance of %d is %d, but %d is the next one", a, targets, s, n, least)
		}
	}
}

// P4.3
func TestPath(t *testing.T) {
	r := rand.New(rand.NewSource(5))
	found := 0
	for _, a := range drawn(r) {
		for range 10 {
			if a.States == 0 {
				continue
			}
			from, targets, within := r.Intn(a.States), some(r, a.States, 3), some(r, a.States, 2)
			if r.Intn(2) == 0 {
				within = numbers(a.States)
			}
			var want []int
			is := false
			least := leastWords(a, from, within, a.Alphabet)
			for _, x := range targets {
				if w, reached := least[x]; reached && (!is || before(w, want)) {
					want, is = w, true
				}
			}
			w, got, e := reach.Path(a, from, targets, within)
			if got != is || !slices.Equal(w, want) || e != api.OK {
				t.Errorf("Path(%v, %d, %v, %v) = %v, %t, %d, not %v, %t", a, from, targets, within, w, got, e, want, is)
			}
			if len(w) > 1 {
				found++
			}
		}
	}
	if found < 100 {
		t.Errorf("only %d paths have more than one event", found)
	}
}

// P4.3: the chapter's example, paths through states that are not within the set, and the least of several targets.
func TestPathWithin(t *testing.T) {
	a := example()
	fork := api.Automaton{Alphabet: ints{0, 1, 2}, States: 4, Edges: edges{{From: 0, Event: 0, To: 2}, {From: 0, Event: 1, To: 1}, {From: 0, Event: 2, To: 3}, {From: 1, Event: 0, To: 3}, {From: 2, Event: 2, To: 1}}}
	for i, c := range []struct {
		a               api.Automaton
		from            int
		targets, within []int
		word            []int
		found           bool
	}{
		{a, 0, ints{3}, numbers(4), ints{1, 0}, true},
		{a, 0, ints{3}, ints{0, 2, 3}, ints{1, 0}, true},
		{a, 0, ints{3}, ints{0, 1, 3}, nil, false},
		{a, 0, ints{3}, ints{0, 1, 2}, nil, false},
		{a, 0, ints{3}, ints{1, 2, 3}, nil, false},
		{a, 0, ints{0}, ints{1, 2, 3}, nil, false},
		{a, 0, ints{0, 3}, numbers(4), nil, true},
		{a, 0, nil, numbers(4), nil, false},
		{a, 0, numbers(4), nil, nil, false},
		{a, 1, ints{0, 2, 3}, numbers(4), nil, false},
		{a, 2, ints{2}, ints{2}, nil, true},
		{fork, 0, ints{1, 3}, numbers(4), ints{1}, true},
		{fork, 0, ints{1, 2}, numbers(4), ints{0}, true},
		{fork, 0, ints{3}, numbers(4), ints{2}, true},
		{fork, 2, ints{3}, numbers(4), ints{2, 0}, true},
	} {
		if w, found, e := reach.Path(c.a, c.from, c.targets, c.within); found != c.found || !slices.Equal(w, c.word) || e != api.OK {
			t.Errorf("%d: Path = %v, %t, %d", i, w, found, e)
		}
	}
}

// P4.4
func TestComponents(t *testing.T) {
	for _, a := range drawn(rand.New(rand.NewSource(6))) {
		least := words(a)
		var want [][]int
		placed := map[int]bool{}
		for s := range a.States {
			if placed[s] {
				continue
			}
			var class []int
			for x := range a.States {
				_, there := least[s][x]
				_, back := least[x][s]
				if there && back {
					class, placed[x] = append(class, x), true
				}
			}
			want = append(want, class)
		}
		if l, e := reach.Components(a); e != api.OK || !slices.EqualFunc(l, want, slices.Equal[ints]) {
			t.Errorf("Components(%v) = %v, %d, not %v", a, l, e, want)
		}
	}
}

// leastCycle looks for a cycle of some events in the way in which the chapter describes it.
func leastCycle(a api.Automaton, events []int) (prefix, cycle []int, found bool) {
	for s := range a.States {
		prefix, reached := leastWords(a, 0, numbers(a.States), a.Alphabet)[s]
		if !reached {
			continue
		}
		least := leastWords(a, s, numbers(a.States), events)
		for _, x := range a.Edges {
			w, is := least[x.From]
			if !is || x.To != s || !slices.Contains(events, x.Event) {
				continue
			}
			if w = append(slices.Clone(w), x.Event); !found || before(w, cycle) {
				cycle, found = w, true
			}
		}
		if found {
			return prefix, cycle, true
		}
	}
	return nil, nil, false
}

// P4.5
func TestCycle(t *testing.T) {
	r := rand.New(rand.NewSource(7))
	long := 0
	for _, a := range drawn(r) {
		for _, events := range []ints{nil, a.Alphabet, numbers(api.MaxEvents), some(r, 5, 2), some(r, 5, 2)} {
			prefix, cycle, found := leastCycle(a, events)
			p, c, is, e := reach.Cycle(a, events)
			if is != found || !slices.Equal(p, prefix) || !slices.Equal(c, cycle) || e != api.OK {
				t.Errorf("Cycle(%v, %v) = %v, %v, %t, %d, not %v, %v, %t", a, events, p, c, is, e, prefix, cycle, found)
			}
			if len(p) > 0 && len(c) > 1 {
				long++
			}
		}
	}
	if long < 20 {
		t.Errorf("only %d cycles have a prefix and more than one event", long)
	}
}

// P4.5: the chapter's example, events outside of the alphabet, a prefix by other events, and cycles that cannot be reached.
func TestExampleOfCycle(t *testing.T) {
	for i, c := range []struct {
		a             api.Automaton
		events        []int
		prefix, cycle []int
		found         bool
	}{
		{example(), ints{0, 1}, ints{0}, ints{0}, true},
		{example(), ints{0, 1, 9, 31}, ints{0}, ints{0}, true},
		{example(), ints{1}, nil, nil, false},
		{example(), nil, nil, nil, false},
		{example(), ints{5}, nil, nil, false},
		{ring(4), ints{0}, nil, ints{0, 0, 0, 0}, true},
		{api.Automaton{Alphabet: ints{0, 1}, States: 3, Edges: edges{{From: 0, Event: 0, To: 2}, {From: 1, Event: 0, To: 1}, {From: 2, Event: 1, To: 2}}}, ints{1}, ints{0}, ints{1}, true},
		{api.Automaton{Alphabet: ints{0, 1}, States: 3, Edges: edges{{From: 0, Event: 0, To: 2}, {From: 1, Event: 0, To: 1}, {From: 2, Event: 1, To: 0}}}, ints{0}, nil, nil, false},
		{api.Automaton{Alphabet: ints{0, 1}, States: 3, Edges: edges{{From: 0, Event: 0, To: 2}, {From: 0, Event: 1, To: 1}, {From: 1, Event: 0, To: 2}, {From: 2, Event: 1, To: 1}}}, ints{0, 1}, ints{1}, ints{0, 1}, true},
	} {
		if p, w, found, e := reach.Cycle(c.a, c.events); found != c.found || !slices.Equal(p, c.prefix) || !slices.Equal(w, c.cycle) || e != api.OK {
			t.Errorf("%d: Cycle = %v, %v, %t, %d", i, p, w, found, e)
		}
	}
}

// isClosed is Closed by its definition.
func isClosed(a api.Automaton, set, events []int) bool {
	for _, x := range a.Edges {
		if slices.Contains(set, x.From) && slices.Contains(events, x.Event) && !slices.Contains(set, x.To) {
			return false
		}
	}
	return true
}

// P4.6, and what P4.7 says of it: the interior contains every closed part, also the union of two of them.
func TestClosedAndInterior(t *testing.T) {
	r := rand.New(rand.NewSource(8))
	lost := 0
	for _, a := range drawn(r) {
		for range 3 {
			set, events := some(r, a.States, 1+r.Intn(3)), some(r, 6, 1+r.Intn(3))
			if is, e := reach.Closed(a, set, events); e != api.OK || is != isClosed(a, set, events) {
				t.Errorf("Closed(%v, %v, %v) = %t, %d", a, set, events, is, e)
			}
			greatest := map[int]bool{}
			for bits := range 1 << len(set) {
				var part []int
				for i, s := range set {
					if bits>>i&1 == 1 {
						part = append(part, s)
					}
				}
				if isClosed(a, part, events) {
					for _, s := range part {
						greatest[s] = true
					}
				}
			}
			want := slices.DeleteFunc(slices.Clone(set), func(s int) bool { return !greatest[s] })
			l, e := reach.Interior(a, set, events)
			if e != api.OK || !slices.Equal(l, want) {
				t.Errorf("Interior(%v, %v, %v) = %v, %d, not %v", a, set, events, l, e, want)
			}
			if is, e := reach.Closed(a, l, events); !is || e != api.OK {
				t.Errorf("the interior %v of %v, %v is not closed", l, a, set)
			}
			if len(l) > 0 && len(l) < len(set) {
				lost++
			}
		}
	}
	if lost < 50 {
		t.Errorf("only %d interiors differ from the set", lost)
	}
}

// P4.6: the chapter's example.
func TestExampleOfClosed(t *testing.T) {
	for i, c := range []struct {
		set, events []int
		closed      bool
		interior    []int
	}{
		{ints{0, 1, 2}, ints{1}, true, ints{0, 1, 2}},
		{ints{0, 1, 2}, ints{0}, false, ints{0, 1}},
		{ints{0, 1, 2}, nil, true, ints{0, 1, 2}},
		{ints{0, 1, 2}, ints{30}, true, ints{0, 1, 2}},
		{ints{0, 1, 2}, ints{0, 1}, false, ints{1}},
		{ints{0, 3}, ints{0, 1}, false, nil},
		{nil, ints{0, 1}, true, nil},
		{ints{0, 1, 2, 3}, ints{0, 1}, true, ints{0, 1, 2, 3}},
	} {
		if is, e := reach.Closed(example(), c.set, c.events); is != c.closed || e != api.OK {
			t.Errorf("%d: Closed = %t, %d", i, is, e)
		}
		if l, e := reach.Interior(example(), c.set, c.events); e != api.OK || !slices.Equal(l, c.interior) {
			t.Errorf("%d: Interior = %v, %d", i, l, e)
		}
	}
}

// call is the error that a function has returned, and whether all its other results are zero values.
type call struct {
	name  string
	e     api.Errno
	empty bool
}

// calls calls all functions with the same arguments.
func calls(a api.Automaton, from int, set, within, events []int) []call {
	var l []call
	add := func(name string, e api.Errno, empty bool) { l = append(l, call{name, e, empty}) }
	list := func(name string, set []int, e api.Errno) { add(name, e, len(set) == 0) }
	machine := func(name string, b api.Automaton, e api.Errno) { add(name, e, automaton.Equal(b, api.Automaton{})) }
	x, e := reach.Reachable(a)
	list("Reachable", x, e)
	x, e = reach.Coreachable(a)
	list("Coreachable", x, e)
	x, e = reach.Dead(a)
	list("Dead", x, e)
	b, e := reach.Trim(a)
	machine("Trim", b, e)
	classes, e := reach.Components(a)
	add("Components", e, len(classes) == 0)
	b, e = reach.Restrict(a, set)
	machine("Restrict", b, e)
	x, e = reach.Distances(a, set)
	list("Distances", x, e)
	w, found, e := reach.Path(a, from, set, within)
	add("Path", e, len(w) == 0 && !found)
	p, c, found, e := reach.Cycle(a, events)
	add("Cycle", e, len(p)+len(c) == 0 && !found)
	is, e := reach.Closed(a, set, events)
	add("Closed", e, !is)
	x, e = reach.Interior(a, set, events)
	list("Interior", x, e)
	return l
}

// All functions return the error of automaton.Check first, and nothing else with it.
func TestErrorOfCheckFirst(t *testing.T) {
	for i, a := range []api.Automaton{
		{Alphabet: ints{32}},
		{Alphabet: ints{-1}, States: -1},
		{Alphabet: ints{1, 1}},
		{States: -1},
		{States: math.MinInt},
		{States: api.MaxStates + 1},
		{States: math.MaxInt, Marked: ints{0}},
		{States: 2, Marked: ints{2}},
		{States: 2, Marked: ints{1, 0}},
		{States: 2, Marked: ints{0, -1}},
		{Alphabet: ints{3}, States: 2, Edges: edges{{From: 0, Event: 3, To: 2}}},
		{Alphabet: ints{3}, States: 2, Edges: edges{{From: -1, Event: 3, To: 1}}},
		{Alphabet: ints{3}, States: 2, Edges: edges{{From: 0, Event: 2, To: 1}}},
		{Alphabet: ints{3}, States: 2, Edges: edges{{From: 0, Event: 3, To: 1}, {From: 0, Event: 3, To: 0}}},
	} {
		want := automaton.Check(a)
		if want == api.OK {
			t.Fatalf("%d: %v is an automaton", i, a)
		}
		for _, set := range []ints{nil, {0}, {1, 0}, {-1}, {0, 9999}} {
			for _, from := range []int{0, -1, 9999} {
				for _, c := range calls(a, from, set, set, set) {
					if c.e != want || !c.empty {
						t.Errorf("%d: %s(%v, %v): %d, not %d", i, c.name, a, set, c.e, want)
					}
				}
			}
		}
	}
}

// The errors of the arguments, in the order of the arguments.
func TestErrorsOfArguments(t *testing.T) {
	bad := []struct {
		set []int
		e   api.Errno
	}{
		{ints{-1}, api.ErrRange},
		{ints{math.MinInt, 0}, api.ErrRange},
		{ints{math.MaxInt}, api.ErrRange},
		{ints{1, 1}, api.ErrOrder},
		{ints{0, 0}, api.ErrOrder},
		{ints{2, 1}, api.ErrOrder},
		{ints{2, 1, 99}, api.ErrOrder},
		{ints{2, 99, 1}, api.ErrRange},
		{ints{2, -1}, api.ErrRange},
	}
	good := ints{0, 2}
	withStates := []string{"Restrict", "Distances", "Path", "Closed", "Interior"}
	withEvents := []string{"Cycle", "Closed", "Interior"}
	for _, b := range bad {
		for _, other := range []ints{good, {3, 3}, {99}} {
			for _, name := range withStates {
				checkCall(t, calls(example(), 1, b.set, other, other), name, b.e)
			}
		}
		checkCall(t, calls(example(), 1, good, b.set, nil), "Path", b.e)
		for _, name := range withEvents {
			checkCall(t, calls(example(), 1, good, nil, b.set), name, b.e)
		}
		for _, from := range []int{-1, 4, math.MaxInt, math.MinInt} {
			checkCall(t, calls(example(), from, b.set, b.set, nil), "Path", api.ErrRange)
			checkCall(t, calls(example(), from, good, good, nil), "Path", api.ErrRange)
		}
	}
	for _, name := range withStates {
		checkCall(t, calls(example(), 1, ints{3}, nil, nil), name, api.OK)
		checkCall(t, calls(example(), 1, ints{4}, nil, nil), name, api.ErrRange)
	}
	for _, name := range withEvents {
		checkCall(t, calls(example(), 1, good, nil, ints{31}), name, api.OK)
		checkCall(t, calls(example(), 1, good, nil, ints{32}), name, api.ErrRange)
	}
}

func checkCall(t *testing.T, l []call, name string, want api.Errno) {
	t.Helper()
	for _, c := range l {
		if c.name == name && (c.e != want || want != api.OK && !c.empty) {
			t.Errorf("%s: %d, not %d", name, c.e, want)
		}
	}
}

// The empty automaton has no states, paths and cycles.
func TestEmptyAutomaton(t *testing.T) {
	a := api.Automaton{Alphabet: ints{3, 7}}
	for _, c := range calls(a, 0, nil, nil, ints{3}) {
		want, empty := api.OK, true
		switch c.name {
		case "Path":
			want = api.ErrRange
		case "Closed", "Trim", "Restrict":
			empty = false
		}
		if c.e != want || c.empty != empty {
			t.Errorf("%s: %d, %t", c.name, c.e, c.empty)
		}
	}
	if b, e := reach.Trim(a); e != api.OK || !automaton.Equal(b, a) {
		t.Errorf("Trim = %v, %d", b, e)
	}
	if b, e := reach.Restrict(a, nil); e != api.OK || !automaton.Equal(b, a) {
		t.Errorf("Restrict = %v, %d", b, e)
	}
	if _, e := reach.Restrict(a, ints{0}); e != api.ErrRange {
		t.Errorf("Restrict to a state: %d", e)
	}
}

// Automata with as many states, or edges, as possible.
func TestLargeAutomata(t *testing.T) {
	const n = api.MaxStates
	all := numbers(n)
	a := ring(n)
	a.Marked = ints{n - 1}
	if l, e := reach.Components(a); e != api.OK || len(l) != 1 || !slices.Equal(l[0], all) {
		t.Errorf("Components of a ring: %d", e)
	}
	if p, c, found, e := reach.Cycle(a, ints{0}); len(p) != 0 || len(c) != n || !found || e != api.OK {
		t.Errorf("Cycle of a ring: %d, %d, %t, %d", len(p), len(c), found, e)
	}
	if w, found, e := reach.Path(a, 1, ints{0}, all); len(w) != n-1 || !found || e != api.OK {
		t.Errorf("Path in a ring: %d, %t, %d", len(w), found, e)
	}
	if b, e := reach.Trim(a); e != api.OK || !automaton.Equal(b, a) {
		t.Errorf("Trim of a ring: %d", e)
	}
	if l, e := reach.Interior(a, all[1:], ints{0}); e != api.OK || len(l) != 0 {
		t.Errorf("Interior in a ring: %d, %d", len(l), e)
	}
	line := chain(n)
	if l, e := reach.Components(line); e != api.OK || len(l) != n {
		t.Errorf("Components of a chain: %d, %d", len(l), e)
	}
	if l, e := reach.Distances(line, ints{n - 1}); e != api.OK || len(l) != n || l[0] != n-1 || l[n-1] != 0 {
		t.Errorf("Distances in a chain: %d", e)
	}
	if l, e := reach.Dead(line); e != api.OK || !slices.Equal(l, ints{n - 1}) {
		t.Errorf("Dead of a chain = %v, %d", l, e)
	}
	full := api.Automaton{Alphabet: numbers(api.MaxEvents), States: n, Marked: all}
	for s := range n {
		for x := range api.MaxEvents {
			full.Edges = append(full.Edges, api.Edge{From: s, Event: x, To: (s*31 + x) % n})
		}
	}
	if l, e := reach.Components(full); e != api.OK || len(l) != 1 {
		t.Errorf("Components of a full automaton: %d, %d", len(l), e)
	}
	if is, e := reach.Closed(full, all[:n-1], full.Alphabet); is || e != api.OK {
		t.Errorf("Closed in a full automaton: %t, %d", is, e)
	}
}

// Neither arguments are changed, nor do results share memory with them.
func TestArgumentsAreKept(t *testing.T) {
	a := example()
	set, events := ints{0, 1, 2, 3}, ints{0, 1}
	for range 2 {
		b, _ := reach.Restrict(a, set)
		c, _ := reach.Trim(a)
		scribble(b.Alphabet, b.Marked, c.Alphabet, c.Marked)
		for i := range b.Edges {
			b.Edges[i] = api.Edge{From: -7}
		}
		x, _ := reach.Reachable(a)
		y, _ := reach.Interior(a, set, events)
		z, _ := reach.Distances(a, set)
		classes, _ := reach.Components(a)
		p, w, _, _ := reach.Cycle(a, events)
		q, _, _ := reach.Path(a, 0, ints{3}, set)
		scribble(x, y, z, p, w, q)
		scribble(classes...)
	}
	if !automaton.Equal(a, example()) || !slices.Equal(set, ints{0, 1, 2, 3}) || !slices.Equal(events, ints{0, 1}) {
		t.Errorf("changed: %v, %v, %v", a, set, events)
	}
}

func scribble(l ...[]int) {
	for _, set := range l {
		for i := range set {
			set[i] = -7
		}
	}
}

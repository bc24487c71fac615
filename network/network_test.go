package network_test

import (
	"math"
	"math/rand"
	"slices"
	"testing"

	"overseer/api"
	"overseer/automaton"
	"overseer/bdd"
	"overseer/network"
	"overseer/product"
	"overseer/reach"
)

type (
	ints  = []int
	lists = [][]int
	nodes = []bdd.Node
	edges = []api.Edge
	list  = []api.Automaton
)

// pair are the automata of the first example of layer 6.
func pair() list {
	return list{
		{Alphabet: ints{0, 1}, States: 2, Marked: ints{0}, Edges: edges{{From: 0, Event: 0, To: 1}, {From: 1, Event: 1, To: 0}}},
		{Alphabet: ints{1, 2}, States: 2, Marked: ints{0}, Edges: edges{{From: 0, Event: 1, To: 1}, {From: 1, Event: 2, To: 0}}},
	}
}

// bitsOf is the least b with 2^b at least n.
func bitsOf(n int) int {
	b := 0
	for 1<<b < n {
		b++
	}
	return b
}

func totalOf(n network.Network) int {
	b := 0
	for _, a := range n.Automata {
		b += bitsOf(a.States)
	}
	return b
}

// codeOf is the code of a tuple.
func codeOf(n network.Network, tuple ints) []bool {
	var code []bool
	for _, i := range n.Order {
		b := bitsOf(n.Automata[i].States)
		for k := range b {
			code = append(code, tuple[i]>>(b-1-k)&1 == 1)
		}
	}
	return code
}

// tuplesOf are all tuples, in lexicographic order.
func tuplesOf(n network.Network) lists {
	l := lists{{}}
	for _, a := range n.Automata {
		var longer lists
		for _, tuple := range l {
			for x := range a.States {
				longer = append(longer, append(slices.Clone(tuple), x))
			}
		}
		l = longer
	}
	return l
}

// matching are the tuples of which something is true.
func matching(n network.Network, is func(tuple ints) bool) lists {
	var l lists
	for _, tuple := range tuplesOf(n) {
		if is(tuple) {
			l = append(l, tuple)
		}
	}
	return l
}

// textOf writes bits as a key of a map.
func textOf(bits []bool) string {
	var text []byte
	for _, bit := range bits {
		text = append(text, '0')
		if bit {
			text[len(text)-1] = '1'
		}
	}
	return string(text)
}

// diagramOf is the canonical diagram of a function that is true for some assignments: nodes are told apart by the rests of the assignments that they lead to.
func diagramOf(variables int, assignments [][]bool) bdd.Diagram {
	var texts []string
	for _, bits := range assignments {
		texts = append(texts, textOf(bits))
	}
	slices.Sort(texts)
	f := bdd.Diagram{Variables: variables}
	known := map[bdd.Node]int{}
	var number func(variable int, texts []string) int
	number = func(variable int, texts []string) int {
		if len(texts) == 0 {
			return 0
		}
		if variable == variables {
			return 1
		}
		half := 0
		for half < len(texts) && texts[half][variable] == '0' {
			half++
		}
		n := bdd.Node{Variable: variable, Low: number(variable+1, texts[:half]), High: number(variable+1, texts[half:])}
		if n.Low == n.High {
			return n.Low
		}
		if known[n] == 0 {
			f.Nodes = append(f.Nodes, n)
			known[n] = len(f.Nodes) + 1
		}
		return known[n]
	}
	f.Root = number(0, slices.Compact(texts))
	return f
}

// setOf is the diagram of some tuples.
func setOf(n network.Network, tuples lists) bdd.Diagram {
	var codes [][]bool
	for _, tuple := range tuples {
		codes = append(codes, codeOf(n, tuple))
	}
	return diagramOf(totalOf(n), codes)
}

// stepsOf are the pairs of tuples of which the second one follows the first one by one of some events, by the words of the chapter on products.
func stepsOf(n network.Network, events ints) [][2]ints {
	var l [][2]ints
	for _, tuple := range tuplesOf(n) {
		for _, event := range events {
			if next, possible := stepOf(n, tuple, event); possible {
				l = append(l, [2]ints{tuple, next})
			}
		}
	}
	return l
}

func stepOf(n network.Network, tuple ints, event int) (ints, bool) {
	next, owners := slices.Clone(tuple), 0
	for i, a := range n.Automata {
		if !slices.Contains(a.Alphabet, event) {
			continue
		}
		owners++
		k := slices.IndexFunc(a.Edges, func(x api.Edge) bool { return x.From == tuple[i] && x.Event == event })
		if k < 0 {
			return nil, false
		}
		next[i] = a.Edges[k].To
	}
	return next, owners > 0
}

// relationOf is the diagram of some pairs of tuples.
func relationOf(n network.Network, steps [][2]ints) bdd.Diagram {
	var codes [][]bool
	for _, step := range steps {
		var code []bool
		second := codeOf(n, step[1])
		for i, bit := range codeOf(n, step[0]) {
			code = append(code, bit, second[i])
		}
		codes = append(codes, code)
	}
	return diagramOf(2*totalOf(n), codes)
}

// draw draws a network with at most some automata, of at most five states.
func draw(r *rand.Rand, most int) network.Network {
	n := network.Network{}
	for range r.Intn(most + 1) {
		a := api.Automaton{States: 1 + r.Intn(5)}
		if r.Intn(20) == 0 {
			a.States = 0
		}
		for event := range 5 {
			if r.Intn(2) == 0 {
				a.Alphabet = append(a.Alphabet, event)
			}
		}
		for x := range a.States {
			if r.Intn(3) == 0 {
				a.Marked = append(a.Marked, x)
			}
			for _, event := range a.Alphabet {
				if r.Intn(5) > 1 {
					a.Edges = append(a.Edges, api.Edge{From: x, Event: event, To: r.Intn(a.States)})
				}
			}
		}
		n.Automata = append(n.Automata, a)
	}
	n.Order = r.Perm(len(n.Automata))
	return n
}

// states is an automaton with so many states, and no events.
func states(n int) api.Automaton { return api.Automaton{States: n} }

// copies is a list of an automaton so many times.
func copies(count int, a api.Automaton) list { return slices.Repeat(list{a}, count) }

// identity is the order 0, 1, ..
func identity(n int) ints {
	order := ints{}
	for i := range n {
		order = append(order, i)
	}
	return order
}

// equals reports an error and a diagram that are not as they should be.
func equals(t *testing.T, f bdd.Diagram, e api.Errno, want bdd.Diagram, what ...any) {
	t.Helper()
	if e != api.OK || !bdd.Equal(f, want) {
		t.Errorf("%v: %v, %d, not %v", what, f, e, want)
	}
}

// calls returns the errors of all functions with a network, and reports results that come with them.
func calls(t *testing.T, n network.Network) []api.Errno {
	t.Helper()
	var l []api.Errno
	diagram := func(f bdd.Diagram, e api.Errno) {
		if e != api.OK && !bdd.Equal(f, bdd.Diagram{}) {
			t.Errorf("a diagram with the error %d: %v", e, f)
		}
		l = append(l, e)
	}
	bits, e1 := network.Bits(n)
	code, e2 := network.Encode(n, ints{7, -1})
	tuple, found, e3 := network.Decode(n, make([]bool, 99))
	tuples, e4 := network.Tuples(n, bdd.Diagram{Variables: -1})
	count, e5 := network.Count(n, bdd.Diagram{Variables: -1})
	if bits != 0 && e1 != api.OK || code != nil || tuple != nil || found || tuples != nil || count != 0 {
		t.Errorf("%d, %v, %v, %t, %v, %d", bits, code, tuple, found, tuples, count)
	}
	l = append(l, network.Check(n), e1, e2, e3, e4, e5)
	diagram(network.Set(n, lists{{7, -1}}))
	diagram(network.Valid(n))
	diagram(network.Initial(n))
	diagram(network.Marked(n))
	diagram(network.Local(n, -1, ints{1, 0}))
	diagram(network.Relation(n, ints{1, 0}))
	diagram(network.Enabled(n, ints{1, 0}))
	diagram(network.Blocked(n))
	f, rounds, e := network.Reached(n)
	if e != api.OK && rounds != 0 {
		t.Errorf("%d rounds", rounds)
	}
	diagram(f, e)
	return l
}

// P13.1: the error of a network is that of all functions.
func TestCheck(t *testing.T) {
	for i, c := range []struct {
		n network.Network
		e api.Errno
	}{
		{network.Network{}, api.OK},
		{network.Network{Automata: list{}, Order: ints{}}, api.OK},
		{network.Network{Automata: pair(), Order: ints{1, 0}}, api.OK},
		{network.Network{Automata: copies(12, states(3)), Order: identity(12)}, api.ErrLimit},
		{network.Network{Automata: copies(13, states(1)), Order: ints{0}}, api.ErrLimit},
		{network.Network{Automata: append(copies(12, states(1)), states(-1)), Order: identity(13)}, api.ErrLimit},
		{network.Network{Automata: copies(12, states(1)), Order: identity(12)}, api.OK},
		{network.Network{Automata: copies(10, states(4)), Order: identity(10)}, api.OK},
		{network.Network{Automata: append(copies(10, states(4)), states(1), states(0)), Order: identity(12)}, api.OK},
		{network.Network{Automata: append(copies(10, states(4)), states(2)), Order: identity(11)}, api.ErrLimit},
		{network.Network{Automata: append(copies(9, states(4)), states(5)), Order: identity(10)}, api.ErrLimit},
		{network.Network{Automata: list{states(4096), states(256)}, Order: identity(2)}, api.OK},
		{network.Network{Automata: list{states(4096), states(257)}, Order: identity(2)}, api.ErrLimit},
		{network.Network{Automata: list{states(2), states(-1), states(4097)}, Order: ints{5}}, api.ErrRange},
		{network.Network{Automata: list{states(2), states(4097), states(-1)}, Order: ints{0, 0, 0}}, api.ErrLimit},
		{network.Network{Automata: pair(), Order: nil}, api.ErrSize},
		{network.Network{Automata: nil, Order: ints{0}}, api.ErrSize},
		{network.Network{Automata: pair(), Order: ints{0, 2}}, api.ErrRange},
		{network.Network{Automata: pair(), Order: ints{-1, 0}}, api.ErrRange},
		{network.Network{Automata: pair(), Order: ints{1, 1}}, api.ErrDuplicate},
		{network.Network{Automata: pair(), Order: ints{1, 1, 5}}, api.ErrSize},
		{network.Network{Automata: copies(11, states(4)), Order: make(ints, 11)}, api.ErrDuplicate},
		{network.Network{Automata: pair(), Order: ints{math.MaxInt, math.MinInt}}, api.ErrRange},
	} {
		if e := network.Check(c.n); e != c.e {
			t.Errorf("%d: Check = %d, not %d", i, e, c.e)
		}
		for j, e := range calls(t, c.n) {
			if c.e != api.OK && e != c.e {
				t.Errorf("%d: the function %d returns %d, not %d", i, j, e, c.e)
			}
		}
	}
}

// P13.1
func TestNewAndBits(t *testing.T) {
	r := rand.New(rand.NewSource(1))
	for range 300 {
		want := draw(r, 6)
		n, e := network.New(want.Automata...)
		if e != api.OK || !slices.EqualFunc(n.Automata, want.Automata, automaton.Equal) || !slices.Equal(n.Order, identity(len(want.Automata))) {
			t.Errorf("New(%v) = %v, %d", want.Automata, n, e)
		}
		if b, e := network.Bits(want); b != totalOf(want) || e != api.OK {
			t.Errorf("Bits(%v) = %d, %d", want, b, e)
		}
	}
	for i, c := range []struct {
		l list
		e api.Errno
	}{
		{nil, api.OK}, {copies(10, states(4)), api.OK}, {copies(12, states(1)), api.OK}, {copies(13, states(1)), api.ErrLimit}, {copies(11, states(4)), api.ErrLimit}, {list{states(1), states(-2)}, api.ErrRange}, {list{states(4097)}, api.ErrLimit},
	} {
		n, e := network.New(c.l...)
		if e != c.e || e != api.OK && (n.Automata != nil || n.Order != nil) {
			t.Errorf("%d: New = %v, %d, not %d", i, n, e, c.e)
		}
	}
}

// P13.2
func TestCodes(t *testing.T) {
	r := rand.New(rand.NewSource(2))
	strange := 0
	for range 400 {
		n := draw(r, 4)
		texts := map[string]ints{}
		for _, tuple := range tuplesOf(n) {
			want := codeOf(n, tuple)
			texts[textOf(want)] = tuple
			if code, e := network.Encode(n, tuple); !slices.Equal(code, want) || e != api.OK {
				t.Errorf("Encode(%v, %v) = %v, %d, not %v", n, tuple, code, e, want)
			}
		}
		b := totalOf(n)
		for range 30 {
			code := make([]bool, b)
			for i := range code {
				code[i] = r.Intn(2) == 0
			}
			want, is := texts[textOf(code)]
			if !is {
				strange++
			}
			if tuple, found, e := network.Decode(n, code); !slices.Equal(tuple, want) || found != is || e != api.OK {
				t.Errorf("Decode(%v, %v) = %v, %t, %d", n, code, tuple, found, e)
			}
		}
		for _, length := range (ints{b + 1, max(b-1, 0), 64}) {
			if tuple, found, e := network.Decode(n, make([]bool, length)); length != b && (tuple != nil || found || e != api.ErrSize) {
				t.Errorf("Decode of %d bits = %v, %t, %d", length, tuple, found, e)
			}
		}
	}
	if strange < 500 {
		t.Errorf("only %d codes of no tuple", strange)
	}
	n := network.Network{Automata: list{states(3), states(1), states(0), states(4)}, Order: ints{3, 2, 1, 0}}
	for i, c := range []struct {
		tuple ints
		e     api.Errno
	}{
		{nil, api.ErrSize}, {ints{0, 0, 0}, api.ErrSize}, {ints{9, 9, 9, 9, 9}, api.ErrSize}, {ints{0, 0, 0, 0}, api.ErrRange}, {ints{3, 0, 0, 0}, api.ErrRange}, {ints{-1, 0, 0, 0}, api.ErrRange},
	} {
		if code, e := network.Encode(n, c.tuple); code != nil || e != c.e {
			t.Errorf("%d: Encode = %v, %d", i, code, e)
		}
		if f, e := network.Set(n, lists{c.tuple}); e != c.e || !bdd.Equal(f, bdd.Diagram{}) {
			t.Errorf("%d: Set = %v, %d", i, f, e)
		}
	}
	if tuple, found, e := network.Decode(n, make([]bool, 4)); tuple != nil || found || e != api.OK {
		t.Errorf("Decode = %v, %t, %d", tuple, found, e)
	}
	if tuple, found, e := network.Decode(network.Network{}, nil); len(tuple) > 0 || !found || e != api.OK {
		t.Errorf("Decode = %v, %t, %d", tuple, found, e)
	}
}

// P13.3
func TestSets(t *testing.T) {
	r := rand.New(rand.NewSource(3))
	for range 400 {
		n := draw(r, 4)
		want := matching(n, func(ints) bool { return r.Intn(3) == 0 })
		drawn := slices.Clone(want)
		for range len(want) / 2 {
			drawn = append(drawn, want[r.Intn(len(want))])
		}
		r.Shuffle(len(drawn), func(i, j int) { drawn[i], drawn[j] = drawn[j], drawn[i] })
		f, e := network.Set(n, drawn)
		equals(t, f, e, setOf(n, want), "Set", n, drawn)
		if l, e := network.Tuples(n, f); !slices.EqualFunc(l, want, slices.Equal) || e != api.OK {
			t.Errorf("Tuples(%v) = %v, %d, not %v", n, l, e, want)
		}
		if count, e := network.Count(n, f); count != len(want) || e != api.OK {
			t.Errorf("Count(%v) = %d, %d, not %d", n, count, e, len(want))
		}
	}
	n := network.Network{Automata: list{states(3), states(2)}, Order: ints{1, 0}}
	for i, c := range []struct {
		tuples lists
		e      api.Errno
	}{
		{lists{{0, 0}, {3, 0}, {0}}, api.ErrRange}, {lists{{0, 0}, {0}, {3, 0}}, api.ErrSize}, {lists{{2, 2}}, api.ErrRange}, {lists{{2, 1}, {0, 0}, {2, 1}}, api.OK}, {lists{nil}, api.ErrSize},
	} {
		if f, e := network.Set(n, c.tuples); e != c.e || e != api.OK && !bdd.Equal(f, bdd.Diagram{}) {
			t.Errorf("%d: Set = %v, %d", i, f, e)
		}
	}
}

// P13.3: diagrams that are no sets of tuples, or large ones.
func TestErrorsOfSets(t *testing.T) {
	yes := func(variables int) bdd.Diagram { return bdd.Diagram{Variables: variables, Root: 1} }
	three := network.Network{Automata: list{states(3), states(2)}, Order: ints{1, 0}}
	four := network.Network{Automata: list{states(4), states(2)}, Order: ints{1, 0}}
	large := network.Network{Automata: list{states(1024), states(1024)}, Order: ints{1, 0}}
	for i, c := range []struct {
		n             network.Network
		f             bdd.Diagram
		tuples, count int
		e             api.Errno
	}{
		{four, yes(3), 8, 8, api.OK},
		{four, yes(2), 0, 0, api.ErrSize},
		{four, yes(4), 0, 0, api.ErrSize},
		{four, yes(41), 0, 0, api.ErrRange},
		{three, yes(3), 0, 0, api.ErrRange},
		{three, yes(4), 0, 0, api.ErrSize},
		{three, setOf(three, tuplesOf(three)), 6, 6, api.OK},
		{three, setOf(four, lists{{3, 1}}), 0, 0, api.ErrRange},
		{three, setOf(four, lists{{2, 1}}), 1, 1, api.OK},
		{three, bdd.Diagram{Variables: 3, Nodes: nodes{{Variable: 2, Low: 1, High: 1}}, Root: 2}, 0, 0, api.ErrForm},
		{three, bdd.Diagram{Variables: 9, Nodes: nodes{{Variable: 2, Low: 1, High: 1}}, Root: 2}, 0, 0, api.ErrForm},
		{network.Network{}, yes(0), 1, 1, api.OK},
		{network.Network{}, bdd.Diagram{}, 0, 0, api.OK},
		{network.Network{Automata: list{states(0)}, Order: ints{0}}, yes(0), 0, 0, api.ErrRange},
		{network.Network{Automata: list{states(0), states(2)}, Order: ints{0, 1}}, bdd.Diagram{Variables: 1}, 0, 0, api.OK},
		{network.Network{Automata: list{states(1024)}, Order: ints{0}}, yes(10), 1024, 1024, api.OK},
		{network.Network{Automata: list{states(1025)}, Order: ints{0}}, yes(11), 0, 0, api.ErrRange},
		{network.Network{Automata: list{states(2048)}, Order: ints{0}}, yes(11), -1, 2048, api.OK},
		{large, yes(20), -1, 1 << 20, api.OK},
	} {
		want := c.e
		if c.tuples < 0 {
			want, c.tuples = api.ErrLimit, 0
		}
		if l, e := network.Tuples(c.n, c.f); len(l) != c.tuples || e != want {
			t.Errorf("%d: Tuples: %d tuples, error %d", i, len(l), e)
		}
		if count, e := network.Count(c.n, c.f); count != c.count || e != c.e {
			t.Errorf("%d: Count = %d, %d", i, count, e)
		}
	}
}

// P13.4
func TestSetsOfAutomata(t *testing.T) {
	r := rand.New(rand.NewSource(4))
	for range 400 {
		n := draw(r, 4)
		f, e := network.Valid(n)
		equals(t, f, e, setOf(n, tuplesOf(n)), "Valid", n)
		f, e = network.Initial(n)
		equals(t, f, e, setOf(n, matching(n, func(tuple ints) bool { return !slices.ContainsFunc(tuple, func(x int) bool { return x > 0 }) })), "Initial", n)
		f, e = network.Marked(n)
		equals(t, f, e, setOf(n, matching(n, func(tuple ints) bool {
			for i, x := range tuple {
				if !slices.Contains(n.Automata[i].Marked, x) {
					return false
				}
			}
			return true
		})), "Marked", n)
		for i, a := range n.Automata {
			var some ints
			for x := range a.States {
				if r.Intn(2) == 0 {
					some = append(some, x)
				}
			}
			f, e := network.Local(n, i, some)
			equals(t, f, e, setOf(n, matching(n, func(tuple ints) bool { return slices.Contains(some, tuple[i]) })), "Local", n, i, some)
		}
	}
	n := network.Network{Automata: list{states(3), states(2)}, Order: ints{1, 0}}
	for i, c := range []struct {
		automaton int
		states    ints
		e         api.Errno
	}{
		{0, ints{0, 2}, api.OK}, {0, nil, api.OK}, {1, ints{2}, api.ErrRange}, {0, ints{3}, api.ErrRange}, {0, ints{-1}, api.ErrRange}, {0, ints{1, 0, 3}, api.ErrOrder}, {0, ints{1, 1}, api.ErrOrder},
		{2, ints{1, 0}, api.ErrNotFound}, {-1, nil, api.ErrNotFound}, {math.MaxInt, nil, api.ErrNotFound}, {math.MinInt, nil, api.ErrNotFound},
	} {
		if f, e := network.Local(n, c.automaton, c.states); e != c.e || e != api.OK && !bdd.Equal(f, bdd.Diagram{}) {
			t.Errorf("%d: Local = %v, %d", i, f, e)
		}
	}
}

// P13.5
func TestSteps(t *testing.T) {
	r := rand.New(rand.NewSource(5))
	for range 500 {
		n := draw(r, 4)
		var events ints
		for event := range 7 {
			if r.Intn(2) == 0 {
				events = append(events, event)
			}
		}
		steps := stepsOf(n, events)
		f, e := network.Relation(n, events)
		equals(t, f, e, relationOf(n, steps), "Relation", n, events)
		var sources lists
		for _, step := range steps {
			sources = append(sources, step[0])
		}
		f, e = network.Enabled(n, events)
		equals(t, f, e, setOf(n, sources), "Enabled", n, events)
	}
	n := network.Network{Automata: pair(), Order: ints{1, 0}}
	for i, c := range []struct {
		events ints
		e      api.Errno
	}{
		{nil, api.OK}, {ints{0, 31}, api.OK}, {ints{32}, api.ErrRange}, {ints{-1}, api.ErrRange}, {ints{1, 0}, api.ErrOrder}, {ints{1, 1}, api.ErrOrder}, {ints{1, 32, 0}, api.ErrRange},
	} {
		f, e := network.Relation(n, c.events)
		g, e2 := network.Enabled(n, c.events)
		if e != c.e || e2 != c.e || e != api.OK && (!bdd.Equal(f, bdd.Diagram{}) || !bdd.Equal(g, bdd.Diagram{})) {
			t.Errorf("%d: %v, %d, %v, %d", i, f, e, g, e2)
		}
	}
}

// roundsOf is the greatest distance of a state from the initial one.
func roundsOf(a api.Automaton) int {
	set, rounds := make([]bool, a.States), 0
	if len(set) == 0 {
		return 0
	}
	set[0] = true
	for {
		larger := slices.Clone(set)
		for _, x := range a.Edges {
			larger[x.To] = larger[x.To] || set[x.From]
		}
		if slices.Equal(larger, set) {
			return rounds
		}
		set = larger
		rounds++
	}
}

// P13.6
func TestReached(t *testing.T) {
	r := rand.New(rand.NewSource(6))
	blocked, longest := 0, 0
	for range 2000 {
		n := draw(r, 5)
		a, tuples, e := product.Synchronous(n.Automata)
		if e != api.OK {
			t.Fatal(e)
		}
		f, rounds, e := network.Reached(n)
		equals(t, f, e, setOf(n, tuples), "Reached", n)
		if rounds != roundsOf(a) {
			t.Errorf("Reached(%v): %d rounds, not %d", n, rounds, roundsOf(a))
		}
		free, e := reach.Coreachable(a)
		if e != api.OK {
			t.Fatal(e)
		}
		var l lists
		for x, tuple := range tuples {
			if !slices.Contains(free, x) {
				l = append(l, tuple)
			}
		}
		f, e = network.Blocked(n)
		equals(t, f, e, setOf(n, l), "Blocked", n)
		if len(l) > 0 && len(l) < len(tuples) {
			blocked++
		}
		longest = max(longest, rounds)
	}
	if blocked < 50 || longest < 8 {
		t.Errorf("only %d networks of which some tuples are blocked, at most %d rounds", blocked, longest)
	}
}

package relation_test

import (
	"math"
	"math/rand"
	"slices"
	"testing"

	"overseer/api"
	"overseer/automaton"
	"overseer/bdd"
	"overseer/relation"
)

type (
	ints  = []int
	pairs = [][2]int
	nodes = []bdd.Node
	edges = []api.Edge
)

// bitsOf is the least b with 2^b at least n.
func bitsOf(n int) int {
	b := 0
	for 1<<b < n {
		b++
	}
	return b
}

// codeOf are the b lowest bits of a number, the most significant one first.
func codeOf(b, n int) []bool {
	var code []bool
	for range b {
		code = append([]bool{n%2 == 1}, code...)
		n /= 2
	}
	return code
}

// setOf is the diagram of b variables that is true for the codes of some numbers.
func setOf(b int, is func(x int) bool) bdd.Diagram {
	table := make([]bool, 1<<b)
	for x := range table {
		table[x] = is(x)
	}
	f, e := bdd.FromTable(b, table)
	if e != api.OK {
		panic(e)
	}
	return f
}

// relationOf is the diagram of 2 b variables in which the bits of both numbers of a pair stand by turns.
func relationOf(b int, is func(x, y int) bool) bdd.Diagram {
	return setOf(2*b, func(code int) bool {
		x, y := 0, 0
		for i := range b {
			x = 2*x + code>>(2*b-1-2*i)&1
			y = 2*y + code>>(2*b-2-2*i)&1
		}
		return is(x, y)
	})
}

func fromList(b int, l pairs) bdd.Diagram {
	return relationOf(b, func(x, y int) bool { return slices.Contains(l, [2]int{x, y}) })
}

// equals reports an error and a diagram that are not as they should be.
func equals(t *testing.T, f bdd.Diagram, e api.Errno, want bdd.Diagram, what ...any) {
	t.Helper()
	if e != api.OK || !bdd.Equal(f, want) {
		t.Errorf("%v: %v, %d, not %v", what, f, e, want)
	}
}

// fails reports an error that is not as it should be, or a diagram that comes with it.
func fails(t *testing.T, f bdd.Diagram, e, want api.Errno, what ...any) {
	t.Helper()
	if e != want || !bdd.Equal(f, bdd.Diagram{}) {
		t.Errorf("%v: %d nodes, error %d, not %d", what, len(f.Nodes), e, want)
	}
}

// ring is the automaton of the chapter's second example.
func ring() api.Automaton {
	return api.Automaton{Alphabet: ints{0, 1}, States: 3, Edges: edges{{From: 0, Event: 0, To: 1}, {From: 1, Event: 0, To: 2}, {From: 2, Event: 1, To: 0}}}
}

// wrong are diagrams with their errors: a node that asks no variable, equal branches, a root without a node.
func wrong() map[api.Errno]bdd.Diagram {
	return map[api.Errno]bdd.Diagram{
		api.ErrRange: {Variables: 2, Nodes: nodes{{Variable: 2, Low: 0, High: 1}}, Root: 2},
		api.ErrForm:  {Variables: 2, Nodes: nodes{{Variable: 1, Low: 1, High: 1}}, Root: 2},
		api.ErrOrder: {Variables: 2, Nodes: nodes{{Variable: 0, Low: 0, High: 1}, {Variable: 0, Low: 0, High: 2}}, Root: 3},
	}
}

// outside are numbers of states that there cannot be.
var outside = ints{-1, api.MaxStates + 1, math.MaxInt, math.MinInt}

// P11.1
func TestCodes(t *testing.T) {
	for n := range api.MaxStates + 1 {
		if b, e := relation.Bits(n); b != bitsOf(n) || e != api.OK {
			t.Errorf("Bits(%d) = %d, %d", n, b, e)
		}
	}
	for _, n := range (ints{0, 1, 2, 3, 4, 5, 7, 8, 9, 31, 1000, api.MaxStates}) {
		b := bitsOf(n)
		for x := range 1 << b {
			code := codeOf(b, x)
			found, is, e := relation.Decode(n, code)
			if x < n && (found != x || !is) || x >= n && (found != 0 || is) || e != api.OK {
				t.Errorf("Decode(%d, %v) = %d, %t, %d", n, code, found, is, e)
			}
			back, e := relation.Encode(n, x)
			if x < n && (!slices.Equal(back, code) || e != api.OK) || x >= n && (back != nil || e != api.ErrRange) {
				t.Errorf("Encode(%d, %d) = %v, %d", n, x, back, e)
			}
		}
		for _, x := range (ints{-1, n, n + 1, 1 << b, math.MaxInt, math.MinInt}) {
			if code, e := relation.Encode(n, x); code != nil || e != api.ErrRange {
				t.Errorf("Encode(%d, %d) = %v, %d", n, x, code, e)
			}
		}
		for _, length := range (ints{b - 1, b + 1, b + 64}) {
			if length < 0 {
				continue
			}
			if x, is, e := relation.Decode(n, make([]bool, length)); x != 0 || is || e != api.ErrSize {
				t.Errorf("Decode(%d) of %d bits: %d, %t, %d", n, length, x, is, e)
			}
		}
	}
	if code, e := relation.Encode(5, 4); !slices.Equal(code, []bool{true, false, false}) || e != api.OK {
		t.Errorf("Encode = %v, %d", code, e)
	}
	if x, is, e := relation.Decode(5, []bool{true, false, true}); x != 0 || is || e != api.OK {
		t.Errorf("Decode = %d, %t, %d", x, is, e)
	}
}

// P11.1 to P11.3: numbers of states that are out of range come first.
func TestNumbersOfStates(t *testing.T) {
	bad := wrong()[api.ErrForm]
	for _, n := range outside {
		b, e1 := relation.Bits(n)
		code, e2 := relation.Encode(n, 0)
		x, is, e3 := relation.Decode(n, make([]bool, 99))
		l, e4 := relation.States(n, bad)
		p, e5 := relation.Pairs(n, bad)
		if b != 0 || code != nil || x != 0 || is || l != nil || p != nil {
			t.Errorf("%d: %d, %v, %d, %t, %v, %v", n, b, code, x, is, l, p)
		}
		for i, e := range []api.Errno{e1, e2, e3, e4, e5} {
			if e != api.ErrRange {
				t.Errorf("%d: the function %d returns %d", n, i, e)
			}
		}
		f, e := relation.Set(n, ints{2, 1})
		fails(t, f, e, api.ErrRange, "Set", n)
		f, e = relation.FromPairs(n, nil)
		fails(t, f, e, api.ErrRange, "FromPairs", n)
		f, e = relation.Identity(n)
		fails(t, f, e, api.ErrRange, "Identity", n)
	}
}

// P11.2
func TestSets(t *testing.T) {
	r := rand.New(rand.NewSource(1))
	for range 500 {
		n := r.Intn(70)
		states := some(r, n)
		f, e := relation.Set(n, states)
		equals(t, f, e, setOf(bitsOf(n), func(x int) bool { return slices.Contains(states, x) }), "Set", n, states)
		if l, e := relation.States(n, f); !slices.Equal(l, states) || e != api.OK {
			t.Errorf("States(%d, %v) = %v, %d", n, f, l, e)
		}
	}
	var all ints
	for x := range api.MaxStates {
		all = append(all, x)
	}
	for _, n := range (ints{1025, 2048, 3000, 4095, 4096}) {
		f, e := relation.Set(n, all[:n])
		if l, e2 := relation.States(n, f); !slices.Equal(l, all[:n]) || e != api.OK || e2 != api.OK {
			t.Errorf("%d states: %d, %d, %d", n, len(l), e, e2)
		}
	}
	for i, c := range []struct {
		n      int
		states ints
		e      api.Errno
	}{
		{0, nil, api.OK}, {1, ints{0}, api.OK}, {0, ints{0}, api.ErrRange}, {3, ints{3}, api.ErrRange}, {3, ints{0, -1}, api.ErrRange},
		{3, ints{1, 0, 3}, api.ErrOrder}, {3, ints{1, 1}, api.ErrOrder}, {3, ints{3, 2, 1}, api.ErrRange}, {4096, ints{4095}, api.OK}, {4096, ints{4096}, api.ErrRange},
	} {
		f, e := relation.Set(c.n, c.states)
		if e != c.e || e != api.OK && !bdd.Equal(f, bdd.Diagram{}) {
			t.Errorf("%d: Set = %v, %d", i, f, e)
		}
	}
}

// some draws a set of numbers below n.
func some(r *rand.Rand, n int) ints {
	var l ints
	few := 1 + r.Intn(3)
	for x := range n {
		if r.Intn(few) == 0 {
			l = append(l, x)
		}
	}
	return l
}

// P11.2: diagrams that are no sets of states.
func TestStates(t *testing.T) {
	for e, f := range wrong() {
		if l, got := relation.States(4, f); l != nil || got != e {
			t.Errorf("States = %v, %d, not %d", l, got, e)
		}
	}
	for n := range 20 {
		b := bitsOf(n)
		for x := range 1 << b {
			l, e := relation.States(n, setOf(b, func(y int) bool { return x == y }))
			if x < n && (!slices.Equal(l, ints{x}) || e != api.OK) || x >= n && (l != nil || e != api.ErrRange) {
				t.Errorf("States(%d) of %d = %v, %d", n, x, l, e)
			}
		}
		for variables := range 7 {
			yes, _ := bdd.Constant(variables, true)
			want := api.ErrSize
			if variables == b {
				want = api.OK
				if n < 1<<b {
					want = api.ErrRange
				}
			}
			if l, e := relation.States(n, yes); e != want || e != api.OK && l != nil {
				t.Errorf("States(%d) of %d variables = %v, %d, not %d", n, variables, l, e, want)
			}
		}
	}
}

// P11.3
func TestPairs(t *testing.T) {
	r := rand.New(rand.NewSource(2))
	for range 600 {
		n := r.Intn(20)
		var l pairs
		for range r.Intn(3 * (n + 1)) {
			if n > 0 {
				l = append(l, [2]int{r.Intn(n), r.Intn(n)})
			}
		}
		f, e := relation.FromPairs(n, l)
		equals(t, f, e, fromList(bitsOf(n), l), "FromPairs", n, l)
		slices.SortFunc(l, func(p, q [2]int) int { return slices.Compare(p[:], q[:]) })
		l = slices.Compact(l)
		if got, e := relation.Pairs(n, f); !slices.Equal(got, l) || e != api.OK {
			t.Errorf("Pairs(%d, %v) = %v, %d, not %v", n, f, got, e, l)
		}
		id, e := relation.Identity(n)
		equals(t, id, e, relationOf(bitsOf(n), func(x, y int) bool { return x == y && x < n }), "Identity", n)
	}
	for _, l := range []pairs{{{3, 0}}, {{0, 3}}, {{-1, 0}}, {{0, -1}}, {{1, 2}, {2, 1}, {4, 0}}, {{math.MaxInt, 0}}, {{0, math.MinInt}}} {
		f, e := relation.FromPairs(3, l)
		fails(t, f, e, api.ErrRange, "FromPairs", l)
	}
	f, e := relation.FromPairs(0, pairs{{0, 0}})
	fails(t, f, e, api.ErrRange)
}

// P11.3: the errors of Pairs, in their order.
func TestErrorsOfPairs(t *testing.T) {
	for e, f := range wrong() {
		if l, got := relation.Pairs(2, f); l != nil || got != e {
			t.Errorf("Pairs = %v, %d, not %d", l, got, e)
		}
	}
	constant := func(variables int) bdd.Diagram {
		f, _ := bdd.Constant(variables, true)
		return f
	}
	rows := func(n, columns, further int) bdd.Diagram {
		var l pairs
		for x := range n {
			for y := range columns {
				l = append(l, [2]int{x, y})
			}
		}
		for y := range further {
			l = append(l, [2]int{0, columns + y})
		}
		f, _ := relation.FromPairs(max(n, columns+1), l)
		return f
	}
	for i, c := range []struct {
		n     int
		f     bdd.Diagram
		pairs int
		e     api.Errno
	}{
		{0, constant(0), 0, api.ErrRange},
		{1, constant(0), 1, api.OK},
		{1, constant(1), 0, api.ErrSize},
		{2, constant(2), 4, api.OK},
		{2, constant(1), 0, api.ErrSize},
		{3, constant(2), 0, api.ErrSize},
		{3, constant(4), 0, api.ErrRange},
		{32, constant(10), 1024, api.OK},
		{33, constant(12), 0, api.ErrRange},
		{64, constant(12), 0, api.ErrLimit},
		{63, constant(12), 0, api.ErrRange},
		{4096, constant(24), 0, api.ErrLimit},
		{4095, constant(24), 0, api.ErrRange},
		{4096, constant(12), 0, api.ErrSize},
		{64, rows(64, 16, 0), 1024, api.OK},
		{64, rows(64, 16, 1), 0, api.ErrLimit},
		{3, relationOf(2, func(x, y int) bool { return x == 3 && y == 0 }), 0, api.ErrRange},
		{3, relationOf(2, func(x, y int) bool { return x == 0 && y == 3 }), 0, api.ErrRange},
		{3, relationOf(2, func(x, y int) bool { return x < 3 && y < 3 }), 9, api.OK},
	} {
		if l, e := relation.Pairs(c.n, c.f); len(l) != c.pairs || e != c.e {
			t.Errorf("%d: Pairs: %d pairs, error %d", i, len(l), e)
		}
	}
}

// P11.3, P11.4: relations with too many nodes.
func TestLargeRelations(t *testing.T) {
	r := rand.New(rand.NewSource(3))
	n := api.MaxStates
	a := api.Automaton{Alphabet: ints{3, 4, 5, 6}, States: n}
	var l, by5 pairs
	for x := range n {
		for _, event := range a.Alphabet {
			y := r.Intn(n)
			a.Edges = append(a.Edges, api.Edge{From: x, Event: event, To: y})
			l = append(l, [2]int{x, y})
			if event == 5 {
				by5 = append(by5, [2]int{x, y})
			}
		}
	}
	f, e := relation.FromPairs(n, by5[:1000])
	if got, e2 := relation.Pairs(n, f); !slices.Equal(got, by5[:1000]) || e != api.OK || e2 != api.OK {
		t.Errorf("%d pairs, errors %d and %d", len(got), e, e2)
	}
	f, e = relation.From(a, ints{5})
	same, e2 := relation.FromPairs(n, by5)
	if e != api.OK || e2 != api.OK || !bdd.Equal(f, same) || bdd.Check(f) != api.OK {
		t.Errorf("From: errors %d and %d", e, e2)
	}
	f, e = relation.FromPairs(n, l)
	fails(t, f, e, api.ErrLimit, "FromPairs")
	f, e = relation.From(a, a.Alphabet)
	fails(t, f, e, api.ErrLimit, "From")
	var all pairs
	for x := range 512 {
		for y := range 512 {
			all = append(all, [2]int{x, y})
		}
	}
	f, e = relation.FromPairs(512, all)
	equals(t, f, e, bdd.Diagram{Variables: 18, Root: 1})
}

// P11.4
func TestFrom(t *testing.T) {
	r := rand.New(rand.NewSource(4))
	for range 500 {
		a := drawAutomaton(r, r.Intn(12))
		events := some(r, 6)
		f, e := relation.From(a, events)
		equals(t, f, e, relationOf(bitsOf(a.States), func(x, y int) bool {
			return slices.ContainsFunc(a.Edges, func(z api.Edge) bool {
				return z.From == x && z.To == y && slices.Contains(events, z.Event)
			})
		}), "From", a, events)
	}
	for i, c := range []struct {
		a      api.Automaton
		events ints
		e      api.Errno
	}{
		{ring(), nil, api.OK}, {ring(), ints{0, 5, 31}, api.OK}, {ring(), ints{32}, api.ErrRange}, {ring(), ints{-1}, api.ErrRange}, {ring(), ints{1, 0}, api.ErrOrder}, {ring(), ints{1, 1}, api.ErrOrder},
		{api.Automaton{}, ints{0}, api.OK},
		{api.Automaton{States: -1}, ints{1, 0}, api.ErrRange},
		{api.Automaton{States: api.MaxStates + 1}, ints{32}, api.ErrLimit},
		{api.Automaton{States: 1, Edges: edges{{}}}, ints{1, 0}, api.ErrUnknown},
	} {
		f, e := relation.From(c.a, c.events)
		if e != c.e || e != api.OK && !bdd.Equal(f, bdd.Diagram{}) {
			t.Errorf("%d: From = %v, %d", i, f, e)
		}
	}
}

// drawAutomaton draws an automaton with some states, and events below 6.
func drawAutomaton(r *rand.Rand, n int) api.Automaton {
	a := api.Automaton{Alphabet: some(r, 6), States: n}
	for x := range n {
		for _, event := range a.Alphabet {
			if r.Intn(3) == 0 {
				a.Edges = append(a.Edges, api.Edge{From: x, Event: event, To: r.Intn(n)})
			}
		}
	}
	if e := automaton.Check(a); e != api.OK {
		panic(e)
	}
	return a
}

// draw draws a relation and a set of codes of b bits, as tables.
func draw(r *rand.Rand, b int) (leads [][]bool, in []bool) {
	few, rare := 1+r.Intn(6), 1+r.Intn(4)
	for range 1 << b {
		row := make([]bool, 1<<b)
		for y := range row {
			row[y] = r.Intn(few*(1+r.Intn(1<<b))) == 0
		}
		leads = append(leads, row)
		in = append(in, r.Intn(rare) == 0)
	}
	return leads, in
}

// P11.5, P11.6
func TestImages(t *testing.T) {
	random := rand.New(rand.NewSource(5))
	longest := 0
	for range 800 {
		b := random.Intn(5)
		leads, in := draw(random, b)
		r := relationOf(b, func(x, y int) bool { return leads[x][y] })
		f := setOf(b, func(x int) bool { return in[x] })
		forward := func(set []bool, y int) bool {
			return slices.ContainsFunc(numbers(b), func(x int) bool { return set[x] && leads[x][y] })
		}
		backward := func(set []bool, x int) bool {
			return slices.ContainsFunc(numbers(b), func(y int) bool { return set[y] && leads[x][y] })
		}
		g, e := relation.Image(r, f)
		equals(t, g, e, setOf(b, func(y int) bool { return forward(in, y) }), "Image", r, f)
		g, e = relation.Preimage(r, f)
		equals(t, g, e, setOf(b, func(x int) bool { return backward(in, x) }), "Preimage", r, f)
		for i, next := range []func(set []bool, x int) bool{forward, backward} {
			all, count := closed(in, next)
			g, rounds, e := []func(r, f bdd.Diagram) (bdd.Diagram, int, api.Errno){relation.Forward, relation.Backward}[i](r, f)
			equals(t, g, e, setOf(b, func(x int) bool { return all[x] }), i, r, f)
			if rounds != count {
				t.Errorf("%d: %d rounds, not %d", i, rounds, count)
			}
			longest = max(longest, rounds)
		}
	}
	if longest < 5 {
		t.Errorf("at most %d rounds", longest)
	}
}

// numbers are the numbers of b bits.
func numbers(b int) ints {
	var l ints
	for x := range 1 << b {
		l = append(l, x)
	}
	return l
}

// closed adds what comes next to a set, until nothing is new, and counts how often.
func closed(set []bool, next func(set []bool, x int) bool) ([]bool, int) {
	for rounds := 0; ; rounds++ {
		larger := slices.Clone(set)
		for x := range larger {
			larger[x] = larger[x] || next(set, x)
		}
		if slices.Equal(larger, set) {
			return set, rounds
		}
		set = larger
	}
}

// P11.5
func TestCompose(t *testing.T) {
	random := rand.New(rand.NewSource(6))
	for range 600 {
		b := random.Intn(5)
		first, _ := draw(random, b)
		second, _ := draw(random, b)
		r := relationOf(b, func(x, y int) bool { return first[x][y] })
		s := relationOf(b, func(x, y int) bool { return second[x][y] })
		both, e := relation.Compose(r, s)
		equals(t, both, e, relationOf(b, func(x, z int) bool {
			return slices.ContainsFunc(numbers(b), func(y int) bool { return first[x][y] && second[y][z] })
		}), "Compose", r, s)
	}
}

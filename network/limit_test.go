package network_test

import (
	"math/rand"
	"slices"
	"testing"

	"overseer/api"
	"overseer/automaton"
	"overseer/bdd"
	"overseer/network"
	"overseer/reach"
	"overseer/relation"
)

// random draws an automaton with some states, and some edges of each of them to any states.
func random(r *rand.Rand, states, events, percent int) api.Automaton {
	a := api.Automaton{Alphabet: identity(events), States: states, Marked: ints{states - 1}}
	for x := range states {
		for event := range events {
			if r.Intn(100) < percent {
				a.Edges = append(a.Edges, api.Edge{From: x, Event: event, To: r.Intn(states)})
			}
		}
	}
	return a
}

// P13.3, P13.5: diagrams with too many nodes.
func TestLargeDiagrams(t *testing.T) {
	r := rand.New(rand.NewSource(7))
	n := network.Network{Automata: list{states(1024), states(1024)}, Order: ints{1, 0}}
	var tuples lists
	for range 40000 {
		tuples = append(tuples, ints{r.Intn(1024), r.Intn(1024)})
	}
	if f, e := network.Set(n, tuples); e != api.ErrLimit || !bdd.Equal(f, bdd.Diagram{}) {
		t.Errorf("Set: %d nodes, error %d", len(f.Nodes), e)
	}
	f, e := network.Set(n, tuples[:1000])
	slices.SortFunc(tuples[:1000], slices.Compare)
	if l, e2 := network.Tuples(n, f); e != api.OK || e2 != api.OK || !slices.EqualFunc(l, slices.CompactFunc(tuples[:1000], slices.Equal), slices.Equal) {
		t.Errorf("%d tuples, errors %d and %d", len(l), e, e2)
	}
}

// P13.5, P13.6: the relation of the steps has too many nodes, but not what is reached by them.
func TestLargeRelations(t *testing.T) {
	r := rand.New(rand.NewSource(8))
	a := random(r, api.MaxStates, 4, 60)
	n := network.Network{Automata: list{a}, Order: ints{0}}
	if f, e := network.Relation(n, a.Alphabet); e != api.ErrLimit || !bdd.Equal(f, bdd.Diagram{}) {
		t.Errorf("Relation: %d nodes, error %d", len(f.Nodes), e)
	}
	var sources ints
	for _, x := range a.Edges {
		sources = append(sources, x.From)
	}
	want, _ := relation.Set(a.States, slices.Compact(sources))
	f, e := network.Enabled(n, a.Alphabet)
	equals(t, f, e, want, "Enabled")
	states, _ := reach.Reachable(a)
	want, _ = relation.Set(a.States, states)
	f, rounds, e := network.Reached(n)
	equals(t, f, e, want, "Reached")
	if rounds != roundsOf(a) {
		t.Errorf("%d rounds, not %d", rounds, roundsOf(a))
	}
	free, _ := reach.Coreachable(a)
	states = slices.DeleteFunc(states, func(x int) bool { return slices.Contains(free, x) })
	want, _ = relation.Set(a.States, states)
	f, e = network.Blocked(n)
	equals(t, f, e, want, "Blocked")
	if len(states) == 0 || len(states) > a.States/2 {
		t.Errorf("%d states are blocked", len(states))
	}
}

// P13.6: what is reached has too many nodes.
func TestLargeReached(t *testing.T) {
	r := rand.New(rand.NewSource(9))
	n := network.Network{Automata: list{random(r, 512, 3, 70), random(r, 512, 3, 70)}, Order: ints{0, 1}}
	if f, rounds, e := network.Reached(n); e != api.ErrLimit || rounds != 0 || !bdd.Equal(f, bdd.Diagram{}) {
		t.Errorf("Reached: %d nodes, %d rounds, error %d", len(f.Nodes), rounds, e)
	}
}

// P13.6: many tuples, in many rounds.
func TestManyTuples(t *testing.T) {
	var machines list
	for i := range 10 {
		a := api.Automaton{Alphabet: ints{3 * i, 3*i + 1, 3*i + 2}, States: 4, Marked: ints{0}}
		for x := range 4 {
			a.Edges = append(a.Edges, api.Edge{From: x, Event: 3*i + x%3, To: (x + 1) % 4})
		}
		machines = append(machines, a)
	}
	chain := func(event int) api.Automaton {
		a := api.Automaton{Alphabet: ints{event}, States: 128, Marked: ints{127}}
		for x := range 127 {
			a.Edges = append(a.Edges, api.Edge{From: x, Event: event, To: x + 1})
		}
		return a
	}
	// The second automaton makes a step each time the first one begins anew: together they count.
	digits := list{chain(0), chain(1)}
	digits[0].Alphabet = ints{0, 1}
	digits[0].Edges = append(digits[0].Edges, api.Edge{From: 127, Event: 1, To: 0})
	for i, c := range []struct {
		l      list
		rounds int
	}{
		{machines, 30}, {list{chain(0), chain(1)}, 254}, {list{chain(0), chain(0)}, 127}, {digits, 1<<14 - 1},
	} {
		n := network.Network{Automata: c.l, Order: identity(len(c.l))}
		want := bdd.Diagram{Variables: totalOf(n), Root: 1}
		if i == 2 {
			var same lists
			for x := range 128 {
				same = append(same, ints{x, x})
			}
			want = setOf(n, same)
		}
		f, rounds, e := network.Reached(n)
		equals(t, f, e, want, i)
		if rounds != c.rounds {
			t.Errorf("%d: %d rounds, not %d", i, rounds, c.rounds)
		}
		f, e = network.Blocked(n)
		equals(t, f, e, bdd.Diagram{Variables: totalOf(n)}, i)
	}
}

// P13.7
func TestConsequences(t *testing.T) {
	r := rand.New(rand.NewSource(10))
	for range 200 {
		n := draw(r, 4)
		other := network.Network{Automata: n.Automata, Order: r.Perm(len(n.Automata))}
		f, _, e := network.Reached(n)
		g, _, e2 := network.Reached(other)
		count, e3 := network.Count(n, f)
		again, e4 := network.Count(other, g)
		if count != again || e != api.OK || e2 != api.OK || e3 != api.OK || e4 != api.OK {
			t.Errorf("%v: %d tuples, and %d in another order, errors %d, %d, %d, %d", n, count, again, e, e2, e3, e4)
		}
		valid, _ := network.Valid(n)
		steps, _ := network.Relation(n, ints{0, 2, 3})
		enabled, _ := network.Enabled(n, ints{0, 2, 3})
		sources, e := relation.Preimage(steps, valid)
		equals(t, sources, e, enabled, "preimage")
		some, _ := network.Relation(n, ints{0, 2})
		rest, _ := network.Relation(n, ints{2, 3})
		union, e := bdd.Or(some, rest)
		equals(t, union, e, steps, "union")
		all, _ := network.Relation(n, ints{0, 1, 2, 3, 4})
		initial, _ := network.Initial(n)
		forward, rounds, e := relation.Forward(all, initial)
		equals(t, forward, e, f, "Forward")
		if _, want, _ := network.Reached(n); rounds != want {
			t.Errorf("%v: %d rounds, not %d", n, want, rounds)
		}
	}
}

// The examples of the chapter.
func TestExamples(t *testing.T) {
	n, e := network.New(pair()...)
	if b, e2 := network.Bits(n); b != 2 || e != api.OK || e2 != api.OK {
		t.Errorf("Bits = %d, %d", b, e2)
	}
	if code, e := network.Encode(n, ints{1, 0}); !slices.Equal(code, []bool{true, false}) || e != api.OK {
		t.Errorf("Encode = %v, %d", code, e)
	}
	f, e := network.Relation(n, ints{0})
	equals(t, f, e, relationOf(n, [][2]ints{{{0, 0}, {1, 0}}, {{0, 1}, {1, 1}}}), "Relation")
	f, rounds, e := network.Reached(n)
	if count, e2 := network.Count(n, f); count != 4 || rounds != 3 || e != api.OK || e2 != api.OK {
		t.Errorf("Reached: %d tuples, %d rounds, errors %d and %d", count, rounds, e, e2)
	}
	f, e = network.Blocked(n)
	equals(t, f, e, bdd.Diagram{Variables: 2}, "Blocked")
	n.Order = ints{1, 0}
	if code, e := network.Encode(n, ints{1, 0}); !slices.Equal(code, []bool{false, true}) || e != api.OK {
		t.Errorf("Encode = %v, %d", code, e)
	}
	three := network.Network{Automata: list{states(3)}, Order: ints{0}}
	b, _ := network.Bits(three)
	if tuple, found, e := network.Decode(three, []bool{true, true}); b != 2 || tuple != nil || found || e != api.OK {
		t.Errorf("Decode = %v, %t, %d", tuple, found, e)
	}
}

// Arguments are kept as they are, and results share no memory with them.
func TestArgumentsAreKept(t *testing.T) {
	l := pair()
	n, e := network.New(l...)
	if e != api.OK {
		t.Fatal(e)
	}
	for i := range l {
		l[i].Alphabet[0], l[i].Marked[0], l[i].Edges[0].To = 9, 9, 9
	}
	if !slices.EqualFunc(n.Automata, pair(), automaton.Equal) {
		t.Errorf("New keeps its argument: %v", n)
	}
	tuples := lists{{1, 1}, {0, 1}, {1, 1}, {0, 0}}
	f, _ := network.Set(n, tuples)
	got, _ := network.Tuples(n, f)
	for i := range got {
		_ = append(got[i], 77)
		got[i][0] = -5
	}
	again, e := network.Tuples(n, f)
	if !slices.EqualFunc(again, lists{{0, 0}, {0, 1}, {1, 1}}, slices.Equal) || e != api.OK {
		t.Errorf("Tuples = %v, %d", again, e)
	}
	calls(t, n)
	marked, _ := network.Local(n, 0, n.Automata[0].Marked)
	for i := range marked.Nodes {
		marked.Nodes[i] = bdd.Node{}
	}
	if !slices.EqualFunc(tuples, lists{{1, 1}, {0, 1}, {1, 1}, {0, 0}}, slices.Equal) || !slices.EqualFunc(n.Automata, pair(), automaton.Equal) || !slices.Equal(n.Order, ints{0, 1}) {
		t.Errorf("changed: %v, %v", tuples, n)
	}
}

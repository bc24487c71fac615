package flatten_test

import (
	"fmt"
	"math"
	"math/rand"
	"reflect"
	"slices"
	"testing"

	"overseer/api"
	"overseer/expression"
	"overseer/extended"
	"overseer/flatten"
)

func unfoldOne(m machine) unfolded {
	a, states, e := flatten.Unfold(m)
	u := unfolded{a: a, e: e}
	for _, s := range states {
		u.origins = append(u.origins, origin{ints{s.Location}, s.Values})
	}
	return u
}

// P19.1: the chapter's first example.
func TestCounter(t *testing.T) {
	below := op(api.OpLt, n(), num(2))
	want := unfolded{
		a:       automaton{Alphabet: ints{0, 1}, States: 3, Marked: ints{0, 1, 2}, Edges: edges([3]int{0, 0, 1}, [3]int{1, 0, 2}, [3]int{2, 1, 0})},
		origins: []origin{{ints{0}, ints{0}}, {ints{0}, ints{1}}, {ints{0}, ints{2}}},
	}
	if u := unfoldOne(counter(below)); !u.equal(want) {
		t.Errorf("Unfold = %v", u)
	}
	if a, states, e := flatten.Unfold(counter(expression.True())); !reflect.DeepEqual(a, automaton{}) || states != nil || e != api.ErrOverflow {
		t.Errorf("Unfold = %v, %v, %d", a, states, e)
	}
	if u := unfoldOne(machine{Locations: 3, Initial: 2}); !u.equal(unfolded{a: automaton{States: 1}, origins: []origin{{ints{2}, nil}}}) {
		t.Errorf("Unfold = %v", u)
	}
}

// P19.1: the order of states, and that of edges.
func TestOrderOfStates(t *testing.T) {
	yes := expression.True()
	m := machine{Alphabet: ints{1, 2, 5}, Locations: 5, Initial: 3, Marked: ints{0, 4}, Moves: []move{
		{From: 0, Event: 1, To: 4, Guard: yes}, {From: 0, Event: 5, To: 3, Guard: yes},
		{From: 1, Event: 2, To: 1, Guard: yes},
		{From: 3, Event: 1, To: 2, Guard: yes}, {From: 3, Event: 2, To: 3, Guard: yes}, {From: 3, Event: 5, To: 0, Guard: yes},
	}}
	want := unfolded{
		a:       automaton{Alphabet: ints{1, 2, 5}, States: 4, Marked: ints{2, 3}, Edges: edges([3]int{0, 1, 1}, [3]int{0, 2, 0}, [3]int{0, 5, 2}, [3]int{2, 1, 3}, [3]int{2, 5, 0})},
		origins: []origin{{ints{3}, nil}, {ints{2}, nil}, {ints{0}, nil}, {ints{4}, nil}},
	}
	if u := unfoldOne(m); !u.equal(want) {
		t.Errorf("Unfold = %v, not %v", u, want)
	}
}

// P19.1, P19.6: the states are those that are reached, with the steps between them; a word is possible exactly if a run has it.
func TestRandomUnfold(t *testing.T) {
	r := rand.New(rand.NewSource(1))
	errors, large := map[api.Errno]int{}, 0
	for range 4000 {
		m := drawMachine(r, drawVariables(r), r.Intn(16))
		before := fmt.Sprint(m)
		u := unfoldOne(m)
		if want := unfoldedOf([]machine{m}); !u.equal(want) {
			t.Fatalf("Unfold(%v) = %v, not %v", m, u, want)
		}
		if fmt.Sprint(m) != before {
			t.Fatalf("Unfold changed %s to %v", before, m)
		}
		errors[u.e]++
		_, found, kind, _ := extended.Fault(m)
		if found != (u.e != api.OK) {
			t.Fatalf("Unfold(%v): %d, and Fault %d", m, u.e, kind)
		}
		if u.e != api.OK {
			continue
		}
		if u.a.States > 12 {
			large++
		}
		for range 5 {
			followWord(t, r, m, u)
		}
	}
	if errors[api.OK] < 1000 || errors[api.ErrOverflow] < 300 || errors[api.ErrChoice] < 200 || large < 30 {
		t.Errorf("%v, %d", errors, large)
	}
}

// followWord checks that a drawn word goes as far in the unfolded automaton as in the extended one.
func followWord(t *testing.T, r *rand.Rand, m machine, u unfolded) {
	t.Helper()
	var word ints
	for range min(6, 99*len(m.Alphabet)) {
		word = append(word, m.Alphabet[r.Intn(len(m.Alphabet))])
	}
	s, done, e := extended.Run(m, word)
	at := 0
	for i, event := range word {
		next := slices.IndexFunc(u.a.Edges, func(x edge) bool { return x.From == at && x.Event == event })
		if (next >= 0) != (i < done) || e != api.OK {
			t.Fatalf("%v: Run of %v = %v, %d, %d, unfolded %v", m, word, s, done, e, u)
		}
		if next < 0 {
			break
		}
		at = u.a.Edges[next].To
	}
	if want := (origin{ints{s.Location}, s.Values}); !flatten.EqualOrigins(u.origins[at], want) {
		t.Fatalf("%v: Run of %v = %v, unfolded %v", m, word, s, u.origins[at])
	}
	if marked, _ := extended.Marked(m, s); marked != slices.Contains(u.a.Marked, at) {
		t.Fatalf("%v: %v is marked: %v", m, s, marked)
	}
}

// P19.1, P19.3: as many states as there can be, one more, and an error before or behind the first state too many.
func TestManyStates(t *testing.T) {
	for i, c := range []struct {
		m machine
		e api.Errno
	}{
		{ring(4095, 9, 5000), api.OK},
		{ring(4095, 9, 4095), api.ErrOverflow},
		{ring(4096, 9, 5000), api.ErrLimit},
		{ring(4096, 9, 4094), api.ErrOverflow},
		{ring(4096, 9, 4095), api.ErrLimit},
		{ring(4096, 1, 4095), api.ErrOverflow},
		{ring(4096, 1, 4096), api.ErrLimit},
	} {
		a, states, e := flatten.Unfold(c.m)
		if c.e != api.OK && (!reflect.DeepEqual(a, automaton{}) || states != nil) || e != c.e {
			t.Errorf("%d: Unfold = %d states, %d, not %d", i, a.States, e, c.e)
		}
		if c.e == api.OK && (a.States != 4096 || len(states) != 4096 || len(a.Edges) != 4096 || states[4095].Values[0] != 4095) {
			t.Errorf("%d: Unfold = %d states", i, a.States)
		}
		a, origins, e := flatten.Joint([]machine{c.m})
		if c.e != api.OK && (!reflect.DeepEqual(a, automaton{}) || origins != nil) || e != c.e {
			t.Errorf("%d: Joint = %d states, %d, not %d", i, a.States, e, c.e)
		}
	}
	// Twelve automata with two locations each, and events of their own, have 4096 origins; with a variable they have more.
	var l []machine
	for event := range 12 {
		m := machine{Alphabet: ints{event}, Locations: 2, Moves: []move{{Event: event, To: 1, Guard: expression.True()}}}
		l = append(l, m)
	}
	if u := unfold(l...); u.a.States != 4096 || len(u.a.Edges) != 12*2048 || u.e != api.OK {
		t.Errorf("Joint = %d states, %d", u.a.States, u.e)
	}
	for i := range l {
		l[i].Variables = []variable{{Name: "n", High: 1}}
	}
	l[11].Moves[0].Updates = []update{set(0, num(1))}
	if u := unfold(l...); u.a.States != 4096 || u.e != api.OK {
		t.Errorf("Joint = %d states, %d", u.a.States, u.e)
	}
	l[0].Moves[0].Updates = []update{set(0, op(api.OpSub, num(1), n()))}
	if u := unfold(l...); !u.equal(unfolded{e: api.ErrLimit}) {
		t.Errorf("Joint = %d states, %d", u.a.States, u.e)
	}
}

// P19.5
func TestLocate(t *testing.T) {
	l := []state{at(0, 1, 2), at(1, 1, 2), at(0, 2, 1), at(0, 1, 2), at(1)}
	for i, c := range []struct {
		s     state
		at    int
		found bool
	}{
		{at(0, 1, 2), 0, true},
		{at(1, 1, 2), 1, true},
		{at(0, 2, 1), 2, true},
		{at(1), 4, true},
		{at(0), 0, false},
		{at(2, 1, 2), 0, false},
		{at(0, 1, 2, 0), 0, false},
	} {
		if at, found := flatten.Locate(l, c.s); at != c.at || found != c.found {
			t.Errorf("%d: Locate = %d, %v", i, at, found)
		}
	}
	if at, found := flatten.Locate(nil, state{}); at != 0 || found {
		t.Errorf("Locate = %d, %v", at, found)
	}
	for location, want := range map[int]ints{-1: nil, 0: {0, 2, 3}, 1: {1, 4}, 2: nil, math.MaxInt: nil} {
		if got := flatten.At(l, location); !slices.Equal(got, want) {
			t.Errorf("At of %d = %v", location, got)
		}
	}
	if got := flatten.At(nil, 0); len(got) != 0 {
		t.Errorf("At = %v", got)
	}
}

// P19.5: Where, with the chapter's third example.
func TestWhere(t *testing.T) {
	m := counter(op(api.OpLt, n(), num(2)))
	_, states, _ := flatten.Unfold(m)
	if l, e := flatten.Where(m, states, op(api.OpEq, n(), num(2))); !slices.Equal(l, ints{2}) || e != api.OK {
		t.Errorf("Where = %v, %d", l, e)
	}
	m = machine{Locations: 2, Variables: []variable{{Name: "n", High: 9}, {Name: "k", High: 9}}}
	l := []state{at(0, 3, 0), at(1, 4, 0), at(1, 5, 0), at(0, 4, 0)}
	for i, c := range []struct {
		l    []state
		x    expr
		want ints
		e    api.Errno
	}{
		{l, op(api.OpLe, num(4), n()), ints{1, 2, 3}, api.OK},
		{l, expression.True(), ints{0, 1, 2, 3}, api.OK},
		{l, expression.False(), nil, api.OK},
		{l, tooMuch(), ints{0, 1, 2, 3}, api.OK},
		{append(slices.Clone(l), at(0, 0, 1)), tooMuch(), nil, api.ErrOverflow},
		{append([]state{at(0, 0, 1)}, l...), tooMuch(), nil, api.ErrOverflow},
		{l, n(), nil, api.ErrType},
		{l, expr{Op: api.OpVar, Index: 2}, nil, api.ErrRange},
		{nil, n(), nil, api.ErrType},
		{nil, tooMuch(), nil, api.OK},
		{l, op(api.OpNot, op(api.OpAnd)), nil, api.ErrSize},
		{append(slices.Clone(l), at(0, 0)), n(), nil, api.ErrSize},
		{append(slices.Clone(l), at(2, 0, 0), state{}), n(), nil, api.ErrRange},
		{append(slices.Clone(l), state{}, at(2, 0, 0)), n(), nil, api.ErrSize},
		{append(slices.Clone(l), at(0, 0, 10)), n(), nil, api.ErrRange},
	} {
		got, e := flatten.Where(m, c.l, c.x)
		if !slices.Equal(got, c.want) || e != c.e || e != api.OK && got != nil {
			t.Errorf("%d: Where = %v, %d, not %v, %d", i, got, e, c.want, c.e)
		}
	}
	m.Moves = []move{{From: 2}}
	if l, e := flatten.Where(m, []state{{}}, n()); l != nil || e != api.ErrRange {
		t.Errorf("Where = %v, %d", l, e)
	}
	if len(m.Moves) != 1 {
		t.Error("Where changed its argument")
	}
}

// P19.5: states of unfolded automata are located by themselves; those with a location are those whose guard is true, for any values.
func TestRandomOrigins(t *testing.T) {
	r := rand.New(rand.NewSource(2))
	for range 500 {
		m := drawMachine(r, drawVariables(r), r.Intn(9))
		_, states, e := flatten.Unfold(m)
		if e != api.OK {
			continue
		}
		found := 0
		for location := range m.Locations {
			for _, i := range flatten.At(states, location) {
				if at, is := flatten.Locate(states, states[i]); at != i || !is || states[i].Location != location {
					t.Fatalf("%v: Locate of %v = %d, %v", m, states[i], at, is)
				}
				found++
			}
		}
		if found != len(states) {
			t.Fatalf("%v: At finds %d states of %v", m, found, states)
		}
		x := drawGuard(r, len(m.Variables))
		got, e := flatten.Where(m, states, x)
		var want ints
		first := api.OK
		for i, s := range states {
			value, failure := expression.Evaluate(x, s.Values)
			if first == api.OK {
				first = failure
			}
			if value == 1 {
				want = append(want, i)
			}
		}
		if first != api.OK {
			want = nil
		}
		if !slices.Equal(got, want) || e != first {
			t.Fatalf("Where(%v, %v, %v) = %v, %d", m, states, x, got, e)
		}
	}
}

// P19.4
func TestFrom(t *testing.T) {
	a := automaton{Alphabet: ints{2, 7}, States: 3, Marked: ints{0, 2}, Edges: edges([3]int{0, 2, 1}, [3]int{0, 7, 2}, [3]int{2, 2, 0})}
	before := fmt.Sprint(a)
	m, e := flatten.From(a)
	yes := expression.True()
	want := machine{Alphabet: ints{2, 7}, Locations: 3, Marked: ints{0, 2}, Moves: []move{
		{From: 0, Event: 2, To: 1, Guard: yes}, {From: 0, Event: 7, To: 2, Guard: yes}, {From: 2, Event: 2, To: 0, Guard: yes},
	}}
	if !reflect.DeepEqual(m, want) || e != api.OK {
		t.Errorf("From = %v, %d", m, e)
	}
	m.Alphabet[0], m.Marked[0], m.Moves[0].Guard.Args[0].Value = 1, 1, 1
	if fmt.Sprint(a) != before || !expression.Equal(m.Moves[1].Guard, yes) {
		t.Errorf("From shares memory: %v, %v", a, m)
	}
	full := automaton{States: 64}
	for event := range 4 {
		full.Alphabet = append(full.Alphabet, event)
	}
	for i := range 256 {
		full.Edges = append(full.Edges, edge{From: i / 4, Event: i % 4, To: i / 5})
	}
	for i, c := range []struct {
		change func(a *automaton)
		e      api.Errno
	}{
		{func(a *automaton) {}, api.OK},
		{func(a *automaton) { *a = automaton{States: 1} }, api.OK},
		{func(a *automaton) { *a = automaton{} }, api.ErrEmpty},
		{func(a *automaton) { *a = automaton{Marked: ints{0}} }, api.ErrRange},
		{func(a *automaton) { a.States = 65 }, api.ErrLimit},
		{func(a *automaton) { a.States, a.Marked = 65, ints{65} }, api.ErrRange},
		{func(a *automaton) { a.States = api.MaxStates + 1 }, api.ErrLimit},
		{func(a *automaton) {
			a.Alphabet = append(a.Alphabet, 4)
			a.Edges = append(a.Edges, edge{From: 63, Event: 4, To: 0})
		}, api.ErrLimit},
		{func(a *automaton) { a.Edges = append(a.Edges, edge{From: 63, Event: 4, To: 0}) }, api.ErrUnknown},
		{func(a *automaton) { a.Edges[3], a.Edges[4] = a.Edges[4], a.Edges[3] }, api.ErrOrder},
	} {
		a := full
		a.Edges = slices.Clone(full.Edges)
		c.change(&a)
		m, e := flatten.From(a)
		if e != c.e || e != api.OK && !reflect.DeepEqual(m, machine{}) {
			t.Errorf("%d: From = %v, %d, not %d", i, m, e, c.e)
		}
		if e == api.OK && (m.Locations != a.States || len(m.Moves) != len(a.Edges) || extended.Check(m) != api.OK) {
			t.Errorf("%d: From = %v", i, m)
		}
	}
}

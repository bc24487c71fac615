package cell_test

import (
	"fmt"
	"math/rand"
	"reflect"
	"slices"
	"testing"

	"overseer/api"
	"overseer/automaton"
	"overseer/cell"
	"overseer/product"
)

type (
	reason        = cell.Reason
	specification = cell.Specification
)

// P25.3, P25.4: the chapter's first example.
func TestFirstExample(t *testing.T) {
	s, e := cell.Specify(one())
	want := specification{
		Automaton:    machine(ints{0, 1}, 2, ints{0}, [3]int{0, 0, 1}),
		Components:   []ints{{0}, {1}},
		Requirements: []ints{{0}, {0}},
		Plant:        ints{0, 1},
		Forbidden:    []reason{{State: 1, Kind: cell.Refused, Index: 0, Event: 1}},
	}
	if !reflect.DeepEqual(s, want) || e != api.OK {
		t.Errorf("Specify = %v, %d", s, e)
	}
	a, forbidden, e := cell.Complete(one())
	if !automaton.Equal(a, machine(ints{0, 1}, 3, ints{0}, [3]int{0, 0, 1}, [3]int{1, 1, 2})) || !slices.Equal(forbidden, ints{2}) || e != api.OK {
		t.Errorf("Complete = %v, %v, %d", a, forbidden, e)
	}
	if a, tuples, e := cell.Plant(one()); !automaton.Equal(a, cycle(0, 1)) || !reflect.DeepEqual(tuples, []ints{{0}, {1}}) || e != api.OK {
		t.Errorf("Plant = %v, %v, %d", a, tuples, e)
	}
}

// P25.2, P25.3, P25.4: the chapter's second and third examples.
func TestOtherExamples(t *testing.T) {
	summed := two()
	summed.Exclusions, summed.Constraints = nil, []api.Constraint{bounded("x", 1, 0, 1, 1, 1)}
	plant, tuples, e := cell.Plant(two())
	if !reflect.DeepEqual(tuples, []ints{{0, 0}, {1, 0}, {0, 1}, {1, 1}}) || e != api.OK {
		t.Errorf("Plant = %v, %v, %d", plant, tuples, e)
	}
	for kind, c := range map[int]api.Cell{cell.Excluded: two(), cell.Exceeded: summed} {
		s, e := cell.Specify(c)
		want := specification{Automaton: plant, Components: tuples, Requirements: make([]ints, 4), Plant: numbers(4), Forbidden: []reason{{State: 3, Kind: kind, Event: -1}}}
		if !equalSpecifications(s, want) || e != api.OK {
			t.Errorf("Specify = %v, %d, not %v", s, e, want)
		}
		a, forbidden, e := cell.Complete(c)
		if further := plant; a.States != 5 || !slices.Equal(a.Edges, further.Edges) || !slices.Equal(a.Marked, ints{0}) || !slices.Equal(forbidden, ints{3, 4}) || e != api.OK {
			t.Errorf("Complete = %v, %v, %d", a, forbidden, e)
		}
	}
}

func equalSpecifications(a, b specification) bool {
	return automaton.Equal(a.Automaton, b.Automaton) &&
		slices.EqualFunc(a.Components, b.Components, slices.Equal[ints]) &&
		slices.EqualFunc(a.Requirements, b.Requirements, slices.Equal[ints]) &&
		slices.Equal(a.Plant, b.Plant) && slices.Equal(a.Forbidden, b.Forbidden)
}

// P25.3: of several reasons the first one, and of each kind the first condition, the least event and the first requirement.
func TestFirstReasons(t *testing.T) {
	c := api.Cell{
		Events:       events(4, 0),
		Components:   items("m", machine(ints{0, 1, 2, 3}, 1, ints{0}, [3]int{0, 0, 0}, [3]int{0, 2, 0}, [3]int{0, 3, 0})),
		Requirements: items("r", never(0, 1), never(3), never(2), never(2, 3)),
		Exclusions:   []api.Exclusion{excluded("x", 0, 0), excluded("y", 0, 0)},
		Constraints:  []api.Constraint{bounded("x", 0, 0, 1), bounded("y", -1, 0, 1), bounded("z", -2, 0, 1)},
	}
	for i, want := range []reason{{0, cell.Excluded, 0, -1}, {0, cell.Exceeded, 1, -1}, {0, cell.Refused, 2, 2}, {0, cell.Refused, 1, 3}} {
		s, e := cell.Specify(c)
		if !slices.Equal(s.Forbidden, []reason{want}) || e != api.OK {
			t.Errorf("%d: Specify = %v, %d", i, s, e)
		}
		_, forbidden, e := cell.Complete(c)
		if violated := want.Kind != cell.Refused; slices.Contains(forbidden, 0) != violated || !slices.Contains(forbidden, 1) || e != api.OK {
			t.Errorf("%d: Complete = %v, %d", i, forbidden, e)
		}
		switch i {
		case 0:
			c.Exclusions = nil
		case 1:
			c.Constraints = nil
		case 2:
			c.Requirements = slices.Delete(c.Requirements, 2, 3)
			c.Requirements[2].Automaton = never(3)
		}
	}
	// Controllable events, and events that the plant does not have, can be refused.
	c.Requirements = c.Requirements[:1]
	if s, e := cell.Specify(c); len(s.Forbidden) > 0 || e != api.OK {
		t.Errorf("Specify = %v, %d", s, e)
	}
	a, forbidden, e := cell.Complete(c)
	if !slices.Equal(a.Edges, machine(nil, 0, nil, [3]int{0, 0, 1}, [3]int{0, 2, 0}, [3]int{0, 3, 0}).Edges) || !slices.Equal(forbidden, ints{1}) || e != api.OK {
		t.Errorf("Complete = %v, %v, %d", a, forbidden, e)
	}
}

// target returns the state to which an event leads.
func target(a api.Automaton, state, event int) (to int, possible bool) {
	i := slices.IndexFunc(a.Edges, func(x api.Edge) bool { return x.From == state && x.Event == event })
	if i < 0 {
		return 0, false
	}
	return a.Edges[i].To, true
}

// refuser returns the first requirement that refuses an event, or -1.
func refuser(c api.Cell, states ints, event int) int {
	return slices.IndexFunc(numbers(len(states)), func(i int) bool {
		a := c.Requirements[i].Automaton
		_, possible := target(a, states[i], event)
		return slices.Contains(a.Alphabet, event) && !possible
	})
}

// isViolated returns the first exclusion, and the first constraint, that a tuple violates, or -1.
func isViolated(c api.Cell, tuple ints) (excluded, exceeded int) {
	excluded = slices.IndexFunc(c.Exclusions, func(x api.Exclusion) bool {
		return !slices.ContainsFunc(x.Locals, func(y api.Local) bool { return tuple[y.Component] != y.State })
	})
	exceeded = slices.IndexFunc(c.Constraints, func(x api.Constraint) bool {
		value := 0
		for _, y := range x.Terms {
			value += y.Factor * tuple[y.Component]
		}
		return value > x.Bound
	})
	return excluded, exceeded
}

// reasonOf returns the reason why a state is forbidden, by the words of the chapter.
func reasonOf(c api.Cell, plant api.Automaton, s specification, state int) (r reason, is bool) {
	excluded, exceeded := isViolated(c, s.Components[state])
	if excluded >= 0 {
		return reason{state, cell.Excluded, excluded, -1}, true
	}
	if exceeded >= 0 {
		return reason{state, cell.Exceeded, exceeded, -1}, true
	}
	for event, x := range c.Events {
		_, possible := target(plant, s.Plant[state], event)
		if i := refuser(c, s.Requirements[state], event); possible && !x.Controllable && i >= 0 {
			return reason{state, cell.Refused, i, event}, true
		}
	}
	return reason{}, false
}

// completed returns the completed specification by the words of the chapter.
func completed(c api.Cell, plant api.Automaton, s specification) (a api.Automaton, forbidden ints) {
	p := s.Automaton
	a = api.Automaton{Alphabet: p.Alphabet, States: p.States + 1, Marked: p.Marked}
	for state := range p.States {
		for event := range c.Events {
			to, possible := target(p, state, event)
			_, open := target(plant, s.Plant[state], event)
			switch {
			case possible:
				a.Edges = append(a.Edges, api.Edge{From: state, Event: event, To: to})
			case open && refuser(c, s.Requirements[state], event) >= 0:
				a.Edges = append(a.Edges, api.Edge{From: state, Event: event, To: p.States})
			}
		}
		if excluded, exceeded := isViolated(c, s.Components[state]); excluded >= 0 || exceeded >= 0 {
			forbidden = append(forbidden, state)
		}
	}
	return a, append(forbidden, p.States)
}

// P25.2, P25.3, P25.4: plants and specifications by the words of the chapter.
func TestRandomCells(t *testing.T) {
	kinds := map[int]int{}
	for r, n := rand.New(rand.NewSource(1)), 0; n < 4000; n++ {
		c := draw(r)
		text := fmt.Sprint(c)
		plant, tuples, e := cell.Plant(c)
		wantPlant, wantTuples, _ := product.Synchronous(automata(c.Components))
		if !automaton.Equal(plant, wantPlant) || !reflect.DeepEqual(tuples, wantTuples) || e != api.OK {
			t.Fatalf("Plant(%v) = %v, %v, %d", c, plant, tuples, e)
		}
		s, e := cell.Specify(c)
		p, both, _ := product.Synchronous(automata(slices.Concat(c.Components, c.Requirements)))
		want := specification{Automaton: p}
		for state, tuple := range both {
			k := len(c.Components)
			want.Components, want.Requirements = append(want.Components, tuple[:k]), append(want.Requirements, tuple[k:])
			x, found := product.Find(tuples, tuple[:k])
			if !found {
				t.Fatalf("%v is no state of the plant of %v", tuple[:k], c)
			}
			want.Plant = append(want.Plant, x)
			if r, is := reasonOf(c, plant, want, state); is {
				want.Forbidden = append(want.Forbidden, r)
				kinds[r.Kind]++
			}
		}
		if !equalSpecifications(s, want) || e != api.OK {
			t.Errorf("Specify(%v) = %v, %d, not %v", c, s, e, want)
		}
		a, forbidden, e := cell.Complete(c)
		if b, l := completed(c, plant, want); !automaton.Equal(a, b) || !slices.Equal(forbidden, l) || e != api.OK || automaton.Check(a) != api.OK {
			t.Errorf("Complete(%v) = %v, %v, %d, not %v, %v", c, a, forbidden, e, b, l)
		}
		if fmt.Sprint(c) != text {
			t.Errorf("%s became %v", text, c)
		}
	}
	if kinds[cell.Excluded] < 200 || kinds[cell.Exceeded] < 200 || kinds[cell.Refused] < 200 {
		t.Errorf("kinds of reasons: %v", kinds)
	}
}

// P25.6: the language of the specification, the plant without requirements and conditions, and requirements that refuse nothing.
func TestConsequences(t *testing.T) {
	r := rand.New(rand.NewSource(2))
	words := 0
	for range 500 {
		c := draw(r)
		plant, _, _ := cell.Plant(c)
		s, _ := cell.Specify(c)
		var l []ints
		for _, w := range wordsOf(plant, 4) {
			if !slices.ContainsFunc(c.Requirements, func(x api.Item) bool { return !permits(x.Automaton, w) }) {
				l = append(l, w)
			}
		}
		if got := wordsOf(s.Automaton, 4); !slices.EqualFunc(got, l, slices.Equal[ints]) {
			t.Errorf("the words of %v are %v, not %v", c, got, l)
		}
		words += len(l)
		bare, _, e := cell.Plant(api.Cell{Events: c.Events, Components: c.Components})
		if !automaton.Equal(plant, bare) || e != api.OK {
			t.Errorf("the plant of %v depends on its requirements: %v, %d", c, bare, e)
		}
		c.Exclusions, c.Constraints = nil, nil
		for i, x := range c.Requirements {
			c.Requirements[i].Automaton, _ = automaton.Complete(x.Automaton)
		}
		s, _ = cell.Specify(c)
		a, forbidden, e := cell.Complete(c)
		if len(s.Forbidden) > 0 || !slices.Equal(forbidden, ints{a.States - 1}) || e != api.OK || !slices.Equal(a.Edges, s.Automaton.Edges) {
			t.Errorf("%v refuses nothing, but %v, %v", c, s.Forbidden, forbidden)
		}
	}
	if words < 5000 {
		t.Errorf("only %d words", words)
	}
}

// wordsOf returns the words with at most so many events, in shortlex order.
func wordsOf(a api.Automaton, most int) []ints {
	l, _ := automaton.Words(a, most, false)
	return l
}

// permits reports whether an automaton generates the projection of a word onto its alphabet.
func permits(a api.Automaton, w ints) bool {
	state := 0
	for _, x := range w {
		if !slices.Contains(a.Alphabet, x) {
			continue
		}
		to, possible := target(a, state, x)
		if !possible {
			return false
		}
		state = to
	}
	return true
}

// P25.2, P25.3, P25.4: plants, specifications and completed ones that are too large.
func TestLimits(t *testing.T) {
	loops := machine(ints{0, 1}, 1, ints{0}, [3]int{0, 0, 0}, [3]int{0, 1, 0})
	rings := func(n, k int) []api.Automaton { return []api.Automaton{ring(n, 0), ring(k, 1)} }
	for i, c := range []struct {
		components, requirements   []api.Automaton
		plant, specified, complete int
	}{
		{rings(64, 64), nil, 4096, 4096, 0},
		{rings(65, 63), nil, 4095, 4095, 4096},
		{rings(65, 65), nil, 0, 0, 0},
		{rings(65, 65), []api.Automaton{never(0, 1)}, 0, 0, 0},
		{rings(64, 64), []api.Automaton{never(0)}, 4096, 64, 65},
		{[]api.Automaton{loops}, rings(64, 64), 1, 4096, 0},
		{[]api.Automaton{loops}, rings(65, 63), 1, 4095, 4096},
		{[]api.Automaton{loops}, rings(65, 65), 1, 0, 0},
		{[]api.Automaton{ring(4096, 1)}, nil, 4096, 4096, 0},
		{[]api.Automaton{ring(4095, 1)}, nil, 4095, 4095, 4096},
	} {
		x := api.Cell{Events: events(2, 0), Components: items("m", c.components...), Requirements: items("r", c.requirements...)}
		plant, tuples, e1 := cell.Plant(x)
		s, e2 := cell.Specify(x)
		a, forbidden, e3 := cell.Complete(x)
		if plant.States != c.plant || len(tuples) != c.plant || e1 != limitOf(c.plant) {
			t.Errorf("%d: Plant has %d states, %d", i, plant.States, e1)
		}
		if s.Automaton.States != c.specified || len(s.Plant) != c.specified || e2 != limitOf(c.specified) {
			t.Errorf("%d: Specify has %d states, %d", i, s.Automaton.States, e2)
		}
		if a.States != c.complete || len(forbidden) != min(c.complete, 1) || e3 != limitOf(c.complete) {
			t.Errorf("%d: Complete has %d states, %d forbidden, %d", i, a.States, len(forbidden), e3)
		}
		if e1 != api.OK && !reflect.DeepEqual([]any{plant, tuples, s}, []any{api.Automaton{}, []ints(nil), specification{}}) {
			t.Errorf("%d: %v, %v, %v", i, plant, tuples, s)
		}
	}
}

// limitOf returns the error of a result with so many states: 0 if there is none.
func limitOf(states int) api.Errno {
	if states == 0 {
		return api.ErrLimit
	}
	return api.OK
}

// P1: results share no memory with the cell, nor with each other.
func TestSpecificationsShareNothing(t *testing.T) {
	c := whole()
	s, _ := cell.Specify(c)
	text := fmt.Sprint(s)
	for i := range s.Components {
		_, _ = append(s.Components[i], 99), append(s.Requirements[i], 99)
	}
	if fmt.Sprint(s) != text {
		t.Error("the tuples share memory")
	}
	plant, tuples, _ := cell.Plant(c)
	a, forbidden, _ := cell.Complete(c)
	for _, x := range []api.Automaton{s.Automaton, plant, a} {
		clear(x.Alphabet)
		clear(x.Marked)
		clear(x.Edges)
	}
	for _, l := range slices.Concat(s.Components, s.Requirements, tuples, []ints{s.Plant, forbidden}) {
		clear(l)
	}
	clear(s.Forbidden)
	if !cell.Equal(c, whole()) {
		t.Errorf("the cell became %v", c)
	}
	if again, _ := cell.Specify(c); fmt.Sprint(again) != text {
		t.Errorf("the specification became %v", again)
	}
}

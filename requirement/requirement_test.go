package requirement_test

import (
	"fmt"
	"math"
	"math/rand"
	"reflect"
	"slices"
	"testing"

	"overseer/api"
	"overseer/automaton"
	"overseer/requirement"
)

// drawEvents draws a set of events below most.
func drawEvents(r *rand.Rand, most int) ints {
	var l ints
	for event := range most {
		if r.Intn(2) == 0 {
			l = append(l, event)
		}
	}
	return l
}

// drawRequirement draws an automaton that need not be canonical, or is empty.
func drawRequirement(r *rand.Rand) api.Automaton {
	a := api.Automaton{Alphabet: drawEvents(r, 4), States: r.Intn(6)}
	safe := r.Intn(3) == 0
	for state := range a.States {
		if safe || r.Intn(2) == 0 {
			a.Marked = append(a.Marked, state)
		}
		for _, event := range a.Alphabet {
			switch r.Intn(4) {
			case 0, 1:
				a.Edges = append(a.Edges, api.Edge{From: state, Event: event, To: r.Intn(a.States)})
			case 2:
				a.Edges = append(a.Edges, api.Edge{From: state, Event: event, To: state})
			}
		}
	}
	return a
}

// follow returns the state to which a word with any events leads, by the words of the chapter.
func follow(a api.Automaton, w ints) (state int, permitted bool) {
	for _, event := range w {
		if !slices.Contains(a.Alphabet, event) {
			continue
		}
		i := slices.IndexFunc(a.Edges, func(x api.Edge) bool { return x.From == state && x.Event == event })
		if i < 0 {
			return 0, false
		}
		state = a.Edges[i].To
	}
	return state, a.States > 0
}

func marks(a api.Automaton, w ints) bool {
	state, permitted := follow(a, w)
	return permitted && slices.Contains(a.Marked, state)
}

// breakages are automata with an error each.
func breakages() map[string]struct {
	a api.Automaton
	e api.Errno
} {
	type broken = struct {
		a api.Automaton
		e api.Errno
	}
	return map[string]broken{
		"event":  {api.Automaton{Alphabet: ints{32}, States: 1}, api.ErrRange},
		"events": {api.Automaton{Alphabet: ints{1, 1}, States: -1}, api.ErrOrder},
		"less":   {api.Automaton{States: -1, Marked: ints{0}}, api.ErrRange},
		"more":   {api.Automaton{States: 4097}, api.ErrLimit},
		"marked": {api.Automaton{States: 2, Marked: ints{1, 0}}, api.ErrOrder},
		"edge":   {api.Automaton{States: 1, Edges: edges([3]int{0, 0, 0})}, api.ErrUnknown},
	}
}

// P21.5, P21.6, P1: all functions with an automaton return its error first.
func TestErrorsOfAutomata(t *testing.T) {
	long := make(ints, 5000)
	for name, x := range breakages() {
		a, e := requirement.Widen(x.a, ints{-1})
		expectError(t, name+": Widen", a, e, x.e)
		good, _ := requirement.Never(nil)
		a, e = requirement.Conjunction(good, x.a)
		expectError(t, name+": Conjunction", a, e, x.e)
		if is, e := requirement.IsSafety(x.a); is || e != x.e {
			t.Errorf("%s: IsSafety = %v, %d", name, is, e)
		}
		if l, e := requirement.Idle(x.a); len(l) > 0 || e != x.e {
			t.Errorf("%s: Idle = %v, %d", name, l, e)
		}
		if l, e := requirement.Refused(x.a, -1); len(l) > 0 || e != x.e {
			t.Errorf("%s: Refused = %v, %d", name, l, e)
		}
		if is, e := requirement.Allows(x.a, long); is || e != x.e {
			t.Errorf("%s: Allows = %v, %d", name, is, e)
		}
	}
}

// P21.5, P21.7: Widen adds events, and changes neither what is permitted nor what is marked.
func TestWiden(t *testing.T) {
	a := api.Automaton{Alphabet: ints{1}, States: 3, Marked: ints{1, 2}, Edges: edges([3]int{0, 1, 2}, [3]int{1, 1, 0})}
	got, e := requirement.Widen(a, ints{0, 1, 31})
	want := api.Automaton{Alphabet: ints{0, 1, 31}, States: 2, Marked: ints{1}, Edges: edges([3]int{0, 0, 0}, [3]int{0, 1, 1}, [3]int{0, 31, 0}, [3]int{1, 0, 1}, [3]int{1, 31, 1})}
	if !automaton.Equal(got, want) || e != api.OK {
		t.Errorf("Widen: %v, %d", got, e)
	}
	for i, c := range []struct {
		events ints
		e      api.Errno
	}{{ints{-1}, api.ErrRange}, {ints{0, 32, 1}, api.ErrRange}, {ints{2, 2, 32}, api.ErrOrder}, {ints{1, 0}, api.ErrOrder}} {
		got, e := requirement.Widen(a, c.events)
		expectError(t, fmt.Sprint(i), got, e, c.e)
	}
	r := rand.New(rand.NewSource(1))
	for range 300 {
		a, further := drawRequirement(r), drawEvents(r, 6)
		before := fmt.Sprint(a, further)
		wide, e := requirement.Widen(a, further)
		if e != api.OK || !automaton.IsCanonical(wide) || fmt.Sprint(a, further) != before {
			t.Fatalf("Widen(%v, %v) = %v, %d", a, further, wide, e)
		}
		var both ints
		for event := range 6 {
			if slices.Contains(a.Alphabet, event) || slices.Contains(further, event) {
				both = append(both, event)
			}
		}
		if !slices.Equal(wide.Alphabet, both) {
			t.Errorf("Widen(%v, %v) has the alphabet %v", a, further, wide.Alphabet)
		}
		eachWord(ints{0, 1, 2, 3, 4, 5}, 3, func(w ints) {
			_, is := follow(a, w)
			permitted, e := requirement.Allows(wide, w)
			if permitted != is || marks(wide, w) != marks(a, w) || e != api.OK {
				t.Fatalf("Widen(%v, %v) changes %v", a, further, w)
			}
		})
		for i := range wide.Alphabet {
			wide.Alphabet[i] = 99
		}
		for i := range wide.Edges {
			wide.Edges[i] = api.Edge{}
		}
		if fmt.Sprint(a, further) != before {
			t.Errorf("Widen shares memory with its arguments")
		}
	}
}

// P21.5, P21.7: a conjunction permits, and marks, just what all do.
func TestConjunction(t *testing.T) {
	if a, e := requirement.Conjunction(); e != api.OK || !automaton.Equal(a, api.Automaton{States: 1, Marked: ints{0}}) {
		t.Errorf("of none: %v, %d", a, e)
	}
	a, e := requirement.Conjunction(make([]api.Automaton, 13)...)
	expectError(t, "too many", a, e, api.ErrLimit)
	var counters []api.Automaton
	for i := range 4 {
		x, _ := requirement.Buffer(ints{2 * i}, ints{2*i + 1}, 8)
		counters = append(counters, x)
	}
	a, e = requirement.Conjunction(counters...)
	expectError(t, "too many states", a, e, api.ErrLimit)
	r := rand.New(rand.NewSource(2))
	permitted, refused := 0, 0
	for range 300 {
		var l []api.Automaton
		for range r.Intn(4) {
			l = append(l, drawRequirement(r))
		}
		before := fmt.Sprint(l)
		both, e := requirement.Conjunction(l...)
		if e != api.OK || !automaton.IsCanonical(both) || fmt.Sprint(l) != before {
			t.Fatalf("Conjunction(%v) = %v, %d", l, both, e)
		}
		eachWord(ints{0, 1, 2, 3}, 3, func(w ints) {
			is, isMarked := true, true
			for _, a := range l {
				_, permitted := follow(a, w)
				is, isMarked = is && permitted, isMarked && marks(a, w)
			}
			if got, e := requirement.Allows(both, w); got != is || marks(both, w) != isMarked || e != api.OK {
				t.Fatalf("Conjunction(%v) = %v, for the word %v", l, both, w)
			}
			if is {
				permitted++
			} else {
				refused++
			}
		})
		safe := true
		for _, a := range l {
			is, e := requirement.IsSafety(a)
			safe = safe && is && e == api.OK
		}
		if is, e := requirement.IsSafety(both); safe && !is || e != api.OK {
			t.Errorf("the conjunction of %v is no safety requirement", l)
		}
	}
	if permitted < 1000 || refused < 1000 {
		t.Errorf("%d words are permitted, %d are not", permitted, refused)
	}
}

// P21.5: IsSafety.
func TestIsSafety(t *testing.T) {
	for i, c := range []struct {
		a  api.Automaton
		is bool
	}{
		{api.Automaton{}, true},
		{api.Automaton{States: 1}, false},
		{api.Automaton{States: 1, Marked: ints{0}}, true},
		{api.Automaton{States: 2, Marked: ints{0}}, false}, // the state 1 is not reached
		{api.Automaton{States: 2, Marked: ints{1}}, false},
		{api.Automaton{States: 2, Marked: ints{0, 1}}, true},
	} {
		if is, e := requirement.IsSafety(c.a); is != c.is || e != api.OK {
			t.Errorf("%d: %v, %d", i, is, e)
		}
	}
}

// P21.6: Idle and Refused.
func TestIdleAndRefused(t *testing.T) {
	if l, e := requirement.Idle(api.Automaton{Alphabet: ints{2, 5}}); !slices.Equal(l, ints{2, 5}) || e != api.OK {
		t.Errorf("without states: %v, %d", l, e)
	}
	all := ints{}
	for event := range 32 {
		all = append(all, event)
	}
	one := api.Automaton{Alphabet: all, States: 1, Edges: edges([3]int{0, 31, 0})}
	if l, e := requirement.Idle(one); !slices.Equal(l, ints{31}) || e != api.OK {
		t.Errorf("one event of all: %v, %d", l, e)
	}
	if l, e := requirement.Refused(one, 0); !slices.Equal(l, all[:31]) || e != api.OK {
		t.Errorf("all events but one: %v, %d", l, e)
	}
	for _, state := range []int{-1, 1, math.MinInt, math.MaxInt} {
		if l, e := requirement.Refused(one, state); len(l) > 0 || e != api.ErrRange {
			t.Errorf("state %d: %v, %d", state, l, e)
		}
	}
	if l, e := requirement.Refused(api.Automaton{}, 0); len(l) > 0 || e != api.ErrRange {
		t.Errorf("no states: %v, %d", l, e)
	}
	r := rand.New(rand.NewSource(3))
	found := 0
	for range 500 {
		a := drawRequirement(r)
		before := fmt.Sprint(a)
		has := func(from, event int, is func(to int) bool) bool {
			return slices.ContainsFunc(a.Edges, func(x api.Edge) bool { return x.From == from && x.Event == event && is(x.To) })
		}
		idle := slices.Clone(a.Alphabet)
		for state := range a.States {
			idle = slices.DeleteFunc(idle, func(event int) bool {
				return !has(state, event, func(to int) bool { return to == state })
			})
			var refused ints
			for _, event := range a.Alphabet {
				if !has(state, event, func(int) bool { return true }) {
					refused = append(refused, event)
				}
			}
			if l, e := requirement.Refused(a, state); !slices.Equal(l, refused) || e != api.OK {
				t.Errorf("Refused(%v, %d) = %v, %d", a, state, l, e)
			}
		}
		l, e := requirement.Idle(a)
		if !slices.Equal(l, idle) || e != api.OK {
			t.Errorf("Idle(%v) = %v, %d", a, l, e)
		}
		if a.States > 1 {
			found += len(l)
		}
		for i := range l {
			l[i] = -1
		}
		if fmt.Sprint(a) != before {
			t.Errorf("Idle shares memory with its argument")
		}
	}
	if found < 50 {
		t.Errorf("only %d idle events", found)
	}
}

// P21.6: Allows.
func TestAllows(t *testing.T) {
	r := rand.New(rand.NewSource(4))
	for range 300 {
		a := drawRequirement(r)
		eachWord(ints{0, 1, 2, 3, 31}, 3, func(w ints) {
			_, is := follow(a, w)
			if got, e := requirement.Allows(a, w); got != is || e != api.OK {
				t.Fatalf("Allows(%v, %v) = %v, %d", a, w, got, e)
			}
		})
	}
	some, _ := requirement.Never(ints{2})
	long := make(ints, 4096)
	for i, c := range []struct {
		a  api.Automaton
		w  ints
		is bool
		e  api.Errno
	}{
		{api.Automaton{}, nil, false, api.OK},
		{api.Automaton{}, ints{1}, false, api.OK},
		{some, nil, true, api.OK},
		{some, ints{0, 31, 0}, true, api.OK},
		{some, ints{0, 2, 0}, false, api.OK},
		{some, long, true, api.OK},
		{some, append(slices.Clone(long), 0), false, api.ErrLong},
		{some, append(slices.Clone(long), -1), false, api.ErrLong},
		{some, append(ints{-1}, long...), false, api.ErrLong},
		{some, append(slices.Clone(long[1:]), 32), false, api.ErrRange},
		{some, ints{-1}, false, api.ErrRange},
		{some, ints{2, 2, 32}, false, api.ErrRange},
		{api.Automaton{}, ints{math.MaxInt}, false, api.ErrRange},
		{api.Automaton{}, ints{math.MinInt}, false, api.ErrRange},
	} {
		if is, e := requirement.Allows(c.a, c.w); is != c.is || e != c.e {
			t.Errorf("%d: %v, %d", i, is, e)
		}
	}
	w := ints{3, 1, 2}
	if requirement.Allows(some, w); !reflect.DeepEqual(w, ints{3, 1, 2}) {
		t.Errorf("Allows changes its word: %v", w)
	}
}

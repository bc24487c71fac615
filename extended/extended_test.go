package extended_test

import (
	"math"
	"math/rand"
	"reflect"
	"slices"
	"testing"

	"overseer/api"
	"overseer/expression"
	"overseer/extended"
)

// breakage breaks a valid automaton in a way that has an error.
type breakage struct {
	e      api.Errno
	damage func(m *machine)
}

func deep() expr {
	x := vari(0)
	for range 8 {
		x = op(api.OpNeg, x)
	}
	return x
}

// breakages are in the order of the errors of Check.
func breakages() []breakage {
	return []breakage{
		{api.ErrOrder, func(m *machine) { m.Alphabet = ints{2, 2, 4, 31} }},
		{api.ErrRange, func(m *machine) { m.Locations = 0 }},
		{api.ErrRange, func(m *machine) { m.Initial = -1 }},
		{api.ErrOrder, func(m *machine) { m.Marked = ints{2, 0} }},
		{api.ErrName, func(m *machine) { m.Variables[0].Name = "1" }},
		{api.ErrDuplicate, func(m *machine) { m.Variables[1].Name = m.Variables[0].Name }},
		{api.ErrOrder, func(m *machine) { m.Variables[2].Low = 6 }},
		{api.ErrLimit, func(m *machine) { m.Moves = append(m.Moves, make([]move, 252)...) }},
		{api.ErrRange, func(m *machine) { m.Moves[0].From = -1 }},
		{api.ErrUnknown, func(m *machine) { m.Moves[0].Event = 3 }},
		{api.ErrKind, func(m *machine) { m.Moves[0].Guard.Op = 14 }},
		{api.ErrRange, func(m *machine) { m.Moves[0].Updates[0].Variable = 3 }},
		{api.ErrLimit, func(m *machine) { m.Moves[0].Updates[0].Value = deep() }},
		{api.ErrOrder, func(m *machine) { m.Moves[0].Updates[1].Variable = 0 }},
		{api.ErrType, func(m *machine) { m.Moves[0].Updates[1].Value = expression.True() }},
		{api.ErrRange, func(m *machine) { m.Moves[1].To = 3 }},
		{api.ErrOrder, func(m *machine) { m.Moves[2].Event = 2 }},
		{api.ErrType, func(m *machine) { m.Moves[2].Guard = num(1) }},
		{api.ErrUnknown, func(m *machine) { m.Moves[3].Event = 32 }},
		{api.ErrSize, func(m *machine) { m.Moves[3].Guard.Args = nil }},
		{api.ErrRange, func(m *machine) { m.Moves[3].Updates[0].Variable = -1 }},
		{api.ErrRange, func(m *machine) { m.Moves[4].To = -1 }},
	}
}

// P18.1, and P1: each error, and of two errors the first one. All functions return it.
func TestErrorsOfCheck(t *testing.T) {
	if e := extended.Check(whole()); e != api.OK {
		t.Fatalf("Check: %d", e)
	}
	l := breakages()
	for i, first := range l {
		for k := i; k < len(l); k++ {
			m := whole()
			l[k].damage(&m)
			if k > i {
				first.damage(&m)
			}
			if e := extended.Check(m); e != first.e {
				t.Errorf("%d and %d: Check = %d, not %d", i, k, e, first.e)
			}
			if k > i {
				continue
			}
			if e := extended.CheckState(m, state{Location: -1}); e != first.e {
				t.Errorf("%d: CheckState = %d, not %d", i, e, first.e)
			}
			if got := results(m, state{Location: 99}, 99, 99, 99); !reflect.DeepEqual(got, zeros(first.e)) {
				t.Errorf("%d: %v, not %v", i, got, zeros(first.e))
			}
		}
	}
}

// P18.1
func TestCheck(t *testing.T) {
	for i, c := range []breakage{
		{api.OK, func(m *machine) { *m = machine{Locations: 1} }},
		{api.ErrRange, func(m *machine) { *m = machine{} }},
		{api.ErrRange, func(m *machine) { m.Alphabet = ints{2, 4, 31, 32} }},
		{api.ErrRange, func(m *machine) { m.Alphabet = ints{-1, 2, 4, 31} }},
		{api.OK, func(m *machine) { m.Locations = 64 }},
		{api.ErrRange, func(m *machine) { m.Locations = 65 }},
		{api.ErrRange, func(m *machine) { m.Locations = math.MinInt }},
		{api.OK, func(m *machine) { m.Initial = 2 }},
		{api.ErrRange, func(m *machine) { m.Initial = 3 }},
		{api.OK, func(m *machine) { m.Marked = nil }},
		{api.ErrRange, func(m *machine) { m.Marked = ints{0, 3} }},
		{api.OK, func(m *machine) { m.Variables[0].Name = "true" }},
		{api.ErrRange, func(m *machine) { m.Variables[1].High = 65537 }},
		{api.ErrLimit, func(m *machine) { m.Variables = make([]api.Variable, 17) }},
		{api.ErrRange, func(m *machine) { m.Moves[0].From = 3 }},
		{api.ErrRange, func(m *machine) { m.Moves[4].From = -1 }},
		{api.ErrUnknown, func(m *machine) { m.Moves[4].Event = -1 }},
		{api.ErrOrder, func(m *machine) { m.Moves[3], m.Moves[4] = m.Moves[4], m.Moves[3] }},
		{api.ErrOrder, func(m *machine) { m.Moves[0], m.Moves[1] = m.Moves[1], m.Moves[0] }},
		{api.OK, func(m *machine) { m.Moves[1], m.Moves[2] = m.Moves[2], m.Moves[1] }},
		{api.OK, func(m *machine) { m.Moves[2].To = 0 }},
		{api.ErrType, func(m *machine) { m.Moves[4].Guard = vari(0) }},
		{api.ErrRange, func(m *machine) { m.Moves[4].Guard.Args[0].Index = 3 }},
		{api.ErrType, func(m *machine) { m.Moves[1].Updates[0].Value = expression.False() }},
		{api.ErrRange, func(m *machine) { m.Moves[1].Updates[0].Value = vari(3) }},
		{api.ErrOrder, func(m *machine) { m.Moves[3].Updates[1].Variable = 0 }},
		{api.OK, func(m *machine) { m.Moves = slices.Repeat(m.Moves[4:], 256) }},
		{api.ErrLimit, func(m *machine) { m.Moves = slices.Repeat(m.Moves[4:], 257) }},
	} {
		m := whole()
		c.damage(&m)
		if e := extended.Check(m); e != c.e {
			t.Errorf("%d: Check = %d, not %d", i, e, c.e)
		}
	}
	if extended.MaxLocations != 64 || extended.MaxMoves != 256 {
		t.Error("the limits")
	}
}

// P18.1, and the errors of states of all functions with states.
func TestCheckState(t *testing.T) {
	for i, c := range []struct {
		s state
		e api.Errno
	}{
		{state{0, ints{-2, 0, 5}}, api.OK},
		{state{2, ints{3, 1, 5}}, api.OK},
		{state{-1, ints{3, 1, 5}}, api.ErrRange},
		{state{3, ints{3, 1}}, api.ErrRange},
		{state{0, ints{3, 1}}, api.ErrSize},
		{state{0, nil}, api.ErrSize},
		{state{0, ints{9, 9, 9, 9}}, api.ErrSize},
		{state{0, ints{4, 1, 5}}, api.ErrRange},
		{state{0, ints{-3, 1, 5}}, api.ErrRange},
		{state{0, ints{3, 1, 4}}, api.ErrRange},
		{state{0, ints{3, 1, math.MaxInt}}, api.ErrRange},
	} {
		m := whole()
		if e := extended.CheckState(m, c.s); e != c.e {
			t.Errorf("%d: CheckState = %d, not %d", i, e, c.e)
		}
		if c.e == api.OK {
			continue
		}
		if is, e := extended.Marked(m, c.s); is || e != c.e {
			t.Errorf("%d: Marked = %v, %d", i, is, e)
		}
		if got := takeStep(m, c.s, 99); !reflect.DeepEqual(got, step{e: c.e}) {
			t.Errorf("%d: Step = %v", i, got)
		}
		if l, e := extended.Enabled(m, c.s); l != nil || e != c.e {
			t.Errorf("%d: Enabled = %v, %d", i, l, e)
		}
	}
	for i, c := range []struct {
		a, b state
		want bool
	}{
		{state{}, state{}, true},
		{state{3, ints{1, 2}}, state{3, ints{1, 2}}, true},
		{state{3, nil}, state{3, ints{}}, true},
		{state{3, ints{1, 2}}, state{4, ints{1, 2}}, false},
		{state{3, ints{1, 2}}, state{3, ints{2, 1}}, false},
		{state{3, ints{1, 2}}, state{3, ints{1}}, false},
		{state{-3, ints{1, 2}}, state{-3, ints{1, 2, 0}}, false},
	} {
		if extended.EqualStates(c.a, c.b) != c.want || extended.EqualStates(c.b, c.a) != c.want {
			t.Errorf("%d: EqualStates = %v", i, !c.want)
		}
	}
}

// P18.2
func TestStart(t *testing.T) {
	if s, e := extended.Start(whole()); !extended.EqualStates(s, state{1, ints{1, 0, 5}}) || e != api.OK {
		t.Errorf("Start = %v, %d", s, e)
	}
	if s, e := extended.Start(machine{Locations: 2}); !extended.EqualStates(s, state{}) || e != api.OK {
		t.Errorf("Start = %v, %d", s, e)
	}
	for location, want := range []bool{true, false, true} {
		if is, e := extended.Marked(whole(), state{location, ints{0, 0, 5}}); is != want || e != api.OK {
			t.Errorf("Marked of %d = %v, %d", location, is, e)
		}
	}
}

// P18.6
func TestOverlap(t *testing.T) {
	n := vari(0)
	m := counter(less(n, num(2)))
	m.Moves = slices.Insert(m.Moves, 1, move{Event: 0, Guard: less(num(0), n)}, move{Event: 0, Guard: less(n, num(1))}, move{Event: 0, Guard: over(0)})
	for i, c := range []struct {
		i, k   int
		values ints
		found  bool
		e      api.Errno
	}{
		{0, 1, ints{1}, true, api.OK},
		{1, 0, ints{1}, true, api.OK},
		{0, 2, ints{0}, true, api.OK},
		{1, 2, nil, false, api.OK},
		{0, 3, ints{0}, true, api.OK},
		{1, 3, ints{1}, true, api.OK},
		{0, 0, nil, false, api.ErrConflict},
		{0, 4, nil, false, api.ErrConflict},
		{4, 3, nil, false, api.ErrConflict},
		{-1, 0, nil, false, api.ErrRange},
		{0, -1, nil, false, api.ErrRange},
		{5, 5, nil, false, api.ErrRange},
		{0, 5, nil, false, api.ErrRange},
		{5, 4, nil, false, api.ErrRange},
	} {
		if values, found, e := extended.Overlap(m, c.i, c.k); !slices.Equal(values, c.values) || found != c.found || e != c.e {
			t.Errorf("%d: Overlap = %v, %v, %d", i, values, found, e)
		}
	}
	// The guard of the move 3 overflows for n = 2, where that of 1 is true.
	m.Moves[1].Guard = op(api.OpEq, n, num(2))
	if values, found, e := extended.Overlap(m, 1, 3); values != nil || found || e != api.OK {
		t.Errorf("Overlap = %v, %v, %d", values, found, e)
	}
	m.Moves[1].From, m.Locations = 1, 2
	m.Moves[1], m.Moves[4] = m.Moves[4], m.Moves[1]
	slices.SortStableFunc(m.Moves, func(x, y move) int { return 100*(x.From-y.From) + x.Event - y.Event })
	if _, _, e := extended.Overlap(m, 0, 4); e != api.ErrConflict {
		t.Errorf("Overlap of other locations: %d", e)
	}
	// Without variables there is one list of values, which is empty.
	m = machine{Alphabet: ints{7}, Locations: 1, Moves: []move{{Event: 7, Guard: expression.True()}, {Event: 7, Guard: expression.True()}, {Event: 7, Guard: expression.False()}}}
	if values, found, e := extended.Overlap(m, 1, 0); len(values) != 0 || !found || e != api.OK {
		t.Errorf("Overlap = %v, %v, %d", values, found, e)
	}
	if values, found, e := extended.Overlap(m, 1, 2); len(values) != 0 || found || e != api.OK {
		t.Errorf("Overlap = %v, %v, %d", values, found, e)
	}
	if l, e := extended.Unused(m); !slices.Equal(l, ints{2}) || e != api.OK {
		t.Errorf("Unused = %v, %d", l, e)
	}
}

// P18.6: the errors of expression.All come last, and only here.
func TestManyValues(t *testing.T) {
	m := whole()
	m.Variables[0].High = 2047 - 3
	if values, found, e := extended.Overlap(m, 1, 2); values != nil || found || e != api.OK {
		t.Errorf("Overlap = %v, %v, %d", values, found, e)
	}
	if l, e := extended.Unused(m); !slices.Equal(l, ints{2}) || e != api.OK {
		t.Errorf("Unused = %v, %d", l, e)
	}
	m.Variables[0].High = 2047
	if values, found, e := extended.Overlap(m, 1, 2); values != nil || found || e != api.ErrLimit {
		t.Errorf("Overlap = %v, %v, %d", values, found, e)
	}
	for i, k := range map[int]int{1: 1, 0: 2, 3: 9} {
		if _, _, e := extended.Overlap(m, i, k); e != map[bool]api.Errno{true: api.ErrRange, false: api.ErrConflict}[k == 9] {
			t.Errorf("Overlap: %d", e)
		}
	}
	if l, e := extended.Unused(m); l != nil || e != api.ErrLimit {
		t.Errorf("Unused = %v, %d", l, e)
	}
	m.Variables[0].High = 65536
	if l, e := extended.Reach(m); len(l) != 4 || e != api.OK {
		t.Errorf("Reach = %v, %d", l, e)
	}
}

// P18.6, P18.7: moves that overlap, unused ones, and what follows from there being none.
func TestRandomMoves(t *testing.T) {
	r := rand.New(rand.NewSource(5))
	overlaps, unused := 0, 0
	for range 2000 {
		m := drawMachine(r)
		all, _ := expression.All(m.Variables)
		holds := func(i int, values ints) bool {
			value, e := expression.Evaluate(m.Moves[i].Guard, values)
			return e == api.OK && value == 1
		}
		some := false
		var never ints
		for i := range m.Moves {
			if !slices.ContainsFunc(all, func(values ints) bool { return holds(i, values) }) {
				never = append(never, i)
			}
			for k := range m.Moves {
				if i == k || m.Moves[i].From != m.Moves[k].From || m.Moves[i].Event != m.Moves[k].Event {
					continue
				}
				at := slices.IndexFunc(all, func(values ints) bool { return holds(i, values) && holds(k, values) })
				values, found, e := extended.Overlap(m, i, k)
				if e != api.OK || found != (at >= 0) || found && !slices.Equal(values, all[at]) || !found && values != nil {
					t.Fatalf("Overlap(%v, %d, %d) = %v, %v, %d", m, i, k, values, found, e)
				}
				some = some || found
			}
		}
		if l, e := extended.Unused(m); e != api.OK || !slices.Equal(l, never) {
			t.Fatalf("Unused(%v) = %v, %d, not %v", m, l, e, never)
		}
		if some {
			overlaps++
		}
		unused += len(never)
		bare := withoutUnused(m, never)
		for _, s := range allStates(t, m) {
			for _, event := range m.Alphabet {
				got := takeStep(m, s, event)
				if !some && got.e == api.ErrChoice {
					t.Fatalf("%v has a choice in %v", m, s)
				}
				if other := takeStep(bare, s, event); !got.equal(other) {
					t.Fatalf("%v: %v, and without unused moves %v", m, got, other)
				}
			}
		}
	}
	if overlaps < 200 || unused < 500 {
		t.Errorf("%d overlaps, %d unused", overlaps, unused)
	}
}

// withoutUnused leaves out the unused moves whose guards never overflow.
func withoutUnused(m machine, unused ints) machine {
	all, _ := expression.All(m.Variables)
	var l []move
	for i, x := range m.Moves {
		overflows := slices.ContainsFunc(all, func(values ints) bool { _, e := expression.Evaluate(x.Guard, values); return e != api.OK })
		if overflows || !slices.Contains(unused, i) {
			l = append(l, x)
		}
	}
	m.Moves = l
	return m
}

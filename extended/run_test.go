package extended_test

import (
	"math/rand"
	"reflect"
	"slices"
	"testing"

	"overseer/api"
	"overseer/expression"
	"overseer/extended"
)

// P18.3, P18.4, P18.5: the chapter's first two examples.
func TestCounter(t *testing.T) {
	free, bounded := counter(expression.True()), counter(less(vari(0), num(2)))
	for _, m := range []machine{free, bounded} {
		if s, done, e := extended.Run(m, ints{0, 0, 1}); !extended.EqualStates(s, state{0, ints{0}}) || done != 3 || e != api.OK {
			t.Errorf("Run = %v, %d, %d", s, done, e)
		}
	}
	full := state{0, ints{2}}
	if got := takeStep(free, full, 0); !reflect.DeepEqual(got, step{e: api.ErrOverflow}) {
		t.Errorf("Step = %v", got)
	}
	if run, found, kind, e := extended.Fault(free); !slices.Equal(run, ints{0, 0, 0}) || !found || kind != api.ErrOverflow || e != api.OK {
		t.Errorf("Fault = %v, %v, %d, %d", run, found, kind, e)
	}
	if s, done, e := extended.Run(free, ints{0, 0, 0}); !reflect.DeepEqual(s, state{}) || done != 0 || e != api.ErrOverflow {
		t.Errorf("Run = %v, %d, %d", s, done, e)
	}
	if l, e := extended.Enabled(free, full); l != nil || e != api.ErrOverflow {
		t.Errorf("Enabled = %v, %d", l, e)
	}
	if got := takeStep(bounded, full, 0); !reflect.DeepEqual(got, step{}) {
		t.Errorf("Step = %v", got)
	}
	if run, found, kind, e := extended.Fault(bounded); run != nil || found || kind != api.OK || e != api.OK {
		t.Errorf("Fault = %v, %v, %d, %d", run, found, kind, e)
	}
	if l, e := extended.Reach(bounded); len(l) != 3 || e != api.OK || !extended.EqualStates(l[2], full) {
		t.Errorf("Reach = %v, %d", l, e)
	}
	if s, done, e := extended.Run(bounded, ints{0, 0, 0, 1}); !extended.EqualStates(s, full) || done != 2 || e != api.OK {
		t.Errorf("Run = %v, %d, %d", s, done, e)
	}
	if l, e := extended.Enabled(bounded, full); !slices.Equal(l, ints{1}) || e != api.OK {
		t.Errorf("Enabled = %v, %d", l, e)
	}
	if s, done, e := extended.Run(bounded, nil); !extended.EqualStates(s, state{0, ints{0}}) || done != 0 || e != api.OK {
		t.Errorf("Run = %v, %d, %d", s, done, e)
	}
}

// P18.3: which error of the model there is, and which values updates see.
func TestStep(t *testing.T) {
	yes, n := expression.True(), vari(0)
	with := func(moves ...move) machine {
		for i := range moves {
			moves[i].Event = 1
		}
		return machine{Alphabet: ints{1}, Locations: 3, Variables: []api.Variable{{Name: "n", High: 9, Initial: 4}, {Name: "k", Low: -9, High: 9}}, Moves: moves}
	}
	none := step{}
	for i, c := range []struct {
		m    machine
		want step
	}{
		{with(), none},
		{with(move{Guard: expression.False()}, move{From: 1, Guard: yes}), none},
		{with(move{To: 2, Guard: yes}), step{state{2, ints{4, 0}}, true, api.OK}},
		{with(move{To: 2, Guard: expression.False()}, move{To: 1, Guard: yes}), step{state{1, ints{4, 0}}, true, api.OK}},
		{with(move{Guard: yes}, move{Guard: yes}), step{e: api.ErrChoice}},
		{with(move{Guard: yes}, move{Guard: yes}, move{Guard: over(0)}), step{e: api.ErrOverflow}},
		{with(move{Guard: over(0)}, move{Guard: yes}, move{Guard: yes}), step{e: api.ErrOverflow}},
		{with(move{Guard: yes}, move{Guard: over(0)}), step{e: api.ErrOverflow}},
		{with(move{Guard: over(0)}), step{e: api.ErrOverflow}},
		{with(move{Guard: yes}, move{From: 1, Guard: over(0)}), step{state{0, ints{4, 0}}, true, api.OK}},
		{with(move{Guard: yes, Updates: []update{{Value: num(10)}}}, move{Guard: yes}), step{e: api.ErrChoice}},
		{with(move{Guard: yes, Updates: []update{{Variable: 0, Value: plus(n, num(5))}, {Variable: 1, Value: op(api.OpNeg, n)}}}), step{state{0, ints{9, -4}}, true, api.OK}},
		{with(move{Guard: yes, Updates: []update{{Variable: 0, Value: vari(1)}, {Variable: 1, Value: n}}}), step{state{0, ints{0, 4}}, true, api.OK}},
		{with(move{Guard: yes, Updates: []update{{Variable: 0, Value: plus(n, num(6))}}}), step{e: api.ErrOverflow}},
		{with(move{Guard: yes, Updates: []update{{Variable: 0, Value: num(-1)}}}), step{e: api.ErrOverflow}},
		{with(move{Guard: yes, Updates: []update{{Variable: 0, Value: n}, {Variable: 1, Value: num(10)}}}), step{e: api.ErrOverflow}},
		{with(move{Guard: yes, Updates: []update{{Variable: 1, Value: num(-10)}}}), step{e: api.ErrOverflow}},
		{with(move{Guard: yes, Updates: []update{{Variable: 1, Value: op(api.OpIte, over(0), n, n)}}}), step{e: api.ErrOverflow}},
		{with(move{Guard: less(n, num(4)), Updates: []update{{Variable: 1, Value: num(99)}}}), none},
	} {
		s, e := extended.Start(c.m)
		if e != api.OK {
			t.Errorf("%d: Start: %d", i, e)
		}
		if got := takeStep(c.m, s, 1); !got.equal(c.want) {
			t.Errorf("%d: Step = %v, not %v", i, got, c.want)
		}
		if c.want.e == api.OK {
			continue
		}
		if run, found, kind, e := extended.Fault(c.m); !slices.Equal(run, ints{1}) || !found || kind != c.want.e || e != api.OK {
			t.Errorf("%d: Fault = %v, %v, %d, %d", i, run, found, kind, e)
		}
	}
	for _, event := range []int{-1, 0, 2, 99} {
		if got := takeStep(with(move{Guard: over(0)}), state{0, ints{4, 0}}, event); !reflect.DeepEqual(got, step{e: api.ErrUnknown}) {
			t.Errorf("Step = %v", got)
		}
	}
}

// P18.3
func TestRandomSteps(t *testing.T) {
	r := rand.New(rand.NewSource(6))
	kinds := map[api.Errno]int{}
	for range 1500 {
		m := drawMachine(r)
		if e := extended.Check(m); e != api.OK {
			t.Fatalf("Check(%v) = %d", m, e)
		}
		for _, s := range allStates(t, m) {
			var enabled ints
			first := api.OK
			for _, event := range m.Alphabet {
				got, want := takeStep(m, s, event), stepOf(m, s, event)
				if !got.equal(want) {
					t.Fatalf("Step(%v, %v, %d) = %v, not %v", m, s, event, got, want)
				}
				kinds[got.e]++
				if got.possible {
					enabled = append(enabled, event)
					if e := extended.CheckState(m, got.next); e != api.OK {
						t.Fatalf("CheckState(%v, %v) = %d", m, got.next, e)
					}
				}
				if first == api.OK {
					first = want.e
				}
			}
			if first != api.OK {
				enabled = nil
			}
			if l, e := extended.Enabled(m, s); !slices.Equal(l, enabled) || e != first {
				t.Fatalf("Enabled(%v, %v) = %v, %d, not %v, %d", m, s, l, e, enabled, first)
			}
		}
	}
	if kinds[api.ErrOverflow] < 1000 || kinds[api.ErrChoice] < 1000 || kinds[api.OK] < 10000 {
		t.Errorf("%v", kinds)
	}
}

// runOf is what Run must return for a word over the alphabet.
func runOf(m machine, word ints) (s state, done int, e api.Errno) {
	s = state{Location: m.Initial}
	for _, v := range m.Variables {
		s.Values = append(s.Values, v.Initial)
	}
	for _, event := range word {
		x := stepOf(m, s, event)
		if x.e != api.OK {
			return state{}, 0, x.e
		}
		if !x.possible {
			break
		}
		s = x.next
		done++
	}
	return s, done, api.OK
}

// P18.4
func TestRun(t *testing.T) {
	r := rand.New(rand.NewSource(7))
	errors, part, whole := 0, 0, 0
	for range 5000 {
		m := drawMachine(r)
		var word ints
		for range r.Intn(6) {
			if len(m.Alphabet) > 0 {
				word = append(word, m.Alphabet[r.Intn(len(m.Alphabet))])
			}
		}
		before := slices.Clone(word)
		want, wantDone, wantE := runOf(m, word)
		s, done, e := extended.Run(m, word)
		if !extended.EqualStates(s, want) || done != wantDone || e != wantE || !slices.Equal(word, before) {
			t.Fatalf("Run(%v, %v) = %v, %d, %d, not %v, %d, %d", m, word, s, done, e, want, wantDone, wantE)
		}
		switch {
		case e != api.OK:
			errors++
		case done < len(word):
			part++
		case done > 0:
			whole++
		}
		// An event that is not in the alphabet comes first, also behind errors and what is not possible.
		word = append(word, []int{-1, 6, 99}[r.Intn(3)])
		if s, done, e := extended.Run(m, word); !reflect.DeepEqual(s, state{}) || done != 0 || e != api.ErrUnknown {
			t.Fatalf("Run(%v, %v) = %v, %d, %d", m, word, s, done, e)
		}
	}
	if errors < 300 || part < 300 || whole < 100 {
		t.Errorf("%d, %d, %d", errors, part, whole)
	}
	long := slices.Repeat(ints{3}, 10000)
	if s, done, e := extended.Run(ring(6), long); !extended.EqualStates(s, state{0, ints{10000 % 7}}) || done != 10000 || e != api.OK {
		t.Errorf("Run of a long word = %v, %d, %d", s, done, e)
	}
}

// words are the words over an alphabet with at most so many events, in shortlex order.
func words(alphabet ints, most int) []ints {
	l := []ints{{}}
	for from, length := 0, 0; length < most; length++ {
		to := len(l)
		for _, w := range l[from:to] {
			for _, event := range alphabet {
				l = append(l, append(slices.Clone(w), event))
			}
		}
		from = to
	}
	return l
}

// P18.5, P18.7: what is reached, and the least word with an error, of small automata whose words are all tried.
func TestReachAndFault(t *testing.T) {
	r := rand.New(rand.NewSource(8))
	faults, none, longest := map[api.Errno]int{}, 0, 0
	for range 1500 {
		m := drawMachine(r)
		if len(m.Alphabet) > 3 {
			continue
		}
		tried := words(m.Alphabet, 5)
		var states []state
		var fault ints
		kind := api.OK
		for _, w := range tried {
			s, done, e := runOf(m, w)
			if e == api.OK && done == len(w) && !slices.ContainsFunc(states, func(x state) bool { return extended.EqualStates(x, s) }) {
				states = append(states, s)
			}
			if e != api.OK && kind == api.OK {
				fault, kind = w, e
			}
		}
		l, e := extended.Reach(m)
		if e != api.OK || len(l) < len(states) || !slices.EqualFunc(l[:len(states)], states, extended.EqualStates) {
			t.Fatalf("Reach(%v) = %v, %d, not %v", m, l, e, states)
		}
		run, found, k, e := extended.Fault(m)
		switch {
		case e != api.OK || kind != api.OK && (!found || k != kind || !slices.Equal(run, fault)):
			t.Fatalf("Fault(%v) = %v, %v, %d, %d, not %v, %d", m, run, found, k, e, fault, kind)
		case kind == api.OK && found && len(run) <= 5 || !found && (run != nil || k != api.OK):
			t.Fatalf("Fault(%v) = %v, %v, %d, %d", m, run, found, k, e)
		}
		checkReached(t, m, l, run, found, k)
		faults[k]++
		if !found {
			none++
		}
		longest = max(longest, len(run))
	}
	if faults[api.ErrOverflow] < 100 || faults[api.ErrChoice] < 100 || none < 100 || longest < 4 {
		t.Errorf("%v, %d, %d", faults, none, longest)
	}
}

// checkReached checks that states are all that are reached, and that there is a run with an error exactly if one of them has one.
func checkReached(t *testing.T, m machine, l []state, run ints, found bool, kind api.Errno) {
	t.Helper()
	fails := false
	for i, s := range l {
		if slices.ContainsFunc(l[:i], func(x state) bool { return extended.EqualStates(x, s) }) || extended.CheckState(m, s) != api.OK {
			t.Fatalf("%v has the state %v", m, s)
		}
		for _, event := range m.Alphabet {
			x := stepOf(m, s, event)
			fails = fails || x.e != api.OK
			if x.possible && !slices.ContainsFunc(l, func(y state) bool { return extended.EqualStates(x.next, y) }) {
				t.Fatalf("%v reaches %v", m, x.next)
			}
		}
	}
	if fails != found {
		t.Fatalf("%v: Fault finds %v", m, found)
	}
	if !found {
		return
	}
	if _, _, e := extended.Run(m, run); e != kind {
		t.Fatalf("%v: Run of %v: %d, not %d", m, run, e, kind)
	}
	if _, done, e := extended.Run(m, run[:len(run)-1]); done != len(run)-1 || e != api.OK {
		t.Fatalf("%v: Run of %v without its last event: %d, %d", m, run, done, e)
	}
}

// P18.5: the order in which states are found, and of two words with an error the one with the least last event.
func TestOrderOfReach(t *testing.T) {
	yes := expression.True()
	m := machine{Alphabet: ints{1, 2, 3}, Locations: 6, Initial: 3, Moves: []move{
		{From: 0, Event: 2, To: 4, Guard: yes}, {From: 0, Event: 3, To: 3, Guard: yes},
		{From: 1, Event: 1, To: 1, Guard: yes}, {From: 1, Event: 3, To: 2, Guard: yes}, {From: 1, Event: 3, To: 2, Guard: yes},
		{From: 2, Event: 1, To: 5, Guard: yes}, {From: 2, Event: 2, To: 5, Guard: yes}, {From: 2, Event: 2, To: 5, Guard: yes},
		{From: 3, Event: 1, To: 2, Guard: yes}, {From: 3, Event: 2, To: 0, Guard: yes}, {From: 3, Event: 3, To: 1, Guard: yes},
	}}
	l, e := extended.Reach(m)
	if !slices.EqualFunc(l, []state{{3, nil}, {2, nil}, {0, nil}, {1, nil}, {5, nil}, {4, nil}}, extended.EqualStates) || e != api.OK {
		t.Errorf("Reach = %v, %d", l, e)
	}
	if run, found, kind, e := extended.Fault(m); !slices.Equal(run, ints{1, 2}) || !found || kind != api.ErrChoice || e != api.OK {
		t.Errorf("Fault = %v, %v, %d, %d", run, found, kind, e)
	}
	if l, e := extended.Reach(machine{Locations: 2, Initial: 1}); !slices.EqualFunc(l, []state{{1, nil}}, extended.EqualStates) || e != api.OK {
		t.Errorf("Reach = %v, %d", l, e)
	}
	// Values with the same digits, and negative ones, are different states.
	two := machine{Alphabet: ints{0, 1, 2}, Locations: 12, Variables: []api.Variable{{Name: "a", Low: -1, High: 12}, {Name: "b", Low: -1, High: 12}}, Moves: []move{
		{Event: 0, Guard: yes, Updates: []update{{Variable: 0, Value: num(1)}, {Variable: 1, Value: num(12)}}},
		{Event: 1, Guard: yes, Updates: []update{{Variable: 0, Value: num(11)}, {Variable: 1, Value: num(2)}}},
		{Event: 2, To: 11, Guard: yes, Updates: []update{{Variable: 0, Value: num(2)}, {Variable: 1, Value: num(-1)}}},
	}}
	if l, e := extended.Reach(two); len(l) != 4 || e != api.OK {
		t.Errorf("Reach = %v, %d", l, e)
	}
}

// P18.5: as many states as there can be, and one more, also where an error of the model is found before.
func TestManyStates(t *testing.T) {
	l, e := extended.Reach(ring(4095))
	if len(l) != 4096 || e != api.OK {
		t.Errorf("Reach: %d states, %d", len(l), e)
	}
	for i, s := range l {
		if s.Location != 0 || s.Values[0] != i {
			t.Fatalf("Reach: %v is number %d", s, i)
		}
	}
	if run, found, kind, e := extended.Fault(ring(4095)); !slices.Equal(run, ints{5}) || !found || kind != api.ErrOverflow || e != api.OK {
		t.Errorf("Fault = %v, %v, %d, %d", run, found, kind, e)
	}
	if l, e := extended.Reach(ring(4096)); l != nil || e != api.ErrLimit {
		t.Errorf("Reach: %d states, %d", len(l), e)
	}
	if run, found, kind, e := extended.Fault(ring(4096)); run != nil || found || kind != api.OK || e != api.ErrLimit {
		t.Errorf("Fault = %v, %v, %d, %d", run, found, kind, e)
	}
	far := ring(4095)
	far.Moves[1].Guard = op(api.OpEq, vari(0), num(4095))
	if run, found, kind, e := extended.Fault(far); len(run) != 4096 || !found || kind != api.ErrOverflow || e != api.OK {
		t.Errorf("Fault: %d events, %v, %d, %d", len(run), found, kind, e)
	}
}

// P18.7: a move that is always possible, without updates, changes the location alone.
func TestBareMoves(t *testing.T) {
	m := whole()
	m.Moves = []move{{From: 1, Event: 4, To: 2, Guard: expression.True()}}
	for _, s := range allStates(t, m) {
		got := takeStep(m, s, 4)
		if want := (step{state{2, s.Values}, true, api.OK}); s.Location == 1 && !got.equal(want) || s.Location != 1 && got.possible {
			t.Errorf("Step of %v = %v", s, got)
		}
	}
}

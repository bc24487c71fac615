package requirement_test

import (
	"fmt"
	"math"
	"math/rand"
	"slices"
	"testing"

	"overseer/api"
	"overseer/automaton"
	"overseer/requirement"
)

type (
	ints  = []int
	phase = requirement.Phase
)

// edges are from a state, by an event, to a state.
func edges(l ...[3]int) []api.Edge {
	var all []api.Edge
	for _, x := range l {
		all = append(all, api.Edge{From: x[0], Event: x[1], To: x[2]})
	}
	return all
}

// phases are pairs of events.
func phases(l ...[2]int) []phase {
	var all []phase
	for _, x := range l {
		all = append(all, phase{Enter: x[0], Leave: x[1]})
	}
	return all
}

// eachWord calls a function with all words of some events, up to a length.
func eachWord(events ints, most int, do func(w ints)) {
	words := []ints{nil}
	for n := 0; n < len(words); n++ {
		do(words[n])
		if len(words[n]) == most {
			continue
		}
		for _, event := range events {
			words = append(words, append(slices.Clone(words[n]), event))
		}
	}
}

// expectWords checks that an automaton is canonical over some events, and has just the words for which a function returns true, and marks those for which another one does.
func expectWords(t *testing.T, about string, a api.Automaton, events ints, most int, permits, marks func(w ints) bool) {
	t.Helper()
	if !automaton.IsCanonical(a) || !slices.Equal(a.Alphabet, slices.Sorted(slices.Values(events))) {
		t.Errorf("%s: %v is not canonical over %v", about, a, events)
		return
	}
	eachWord(events, most, func(w ints) {
		generated, e1 := automaton.Generates(a, w)
		accepted, e2 := automaton.Accepts(a, w)
		if generated != permits(w) || accepted != (permits(w) && marks(w)) || e1 != api.OK || e2 != api.OK {
			t.Fatalf("%s: %v: the word %v is generated: %v, and marked: %v", about, a, w, generated, accepted)
		}
	})
}

// expectPattern checks a pattern of three to five events, whose words are given by what must be true of each prefix.
func expectPattern(t *testing.T, about string, a api.Automaton, e api.Errno, events ints, states int, holds, marks func(w ints) bool) {
	t.Helper()
	if e != api.OK || a.States != states {
		t.Errorf("%s: %v, %d, and not %d states", about, a, e, states)
		return
	}
	most := [...]int{3, 9, 8, 7, 6, 5, 4, 4}[min(len(events), 7)]
	expectWords(t, about, a, events, most, func(w ints) bool {
		for n := range len(w) + 1 {
			if !holds(w[:n]) {
				return false
			}
		}
		return true
	}, marks)
}

func always(ints) bool {
	return true
}

func countOf(w ints, is func(event int) bool) int {
	n := 0
	for _, event := range w {
		if is(event) {
			n++
		}
	}
	return n
}

func in(set ints) func(event int) bool {
	return func(event int) bool { return slices.Contains(set, event) }
}

func isOne(one int) func(event int) bool {
	return func(event int) bool { return event == one }
}

// expectError checks that there is an error, and nothing else.
func expectError(t *testing.T, about string, a api.Automaton, e, want api.Errno) {
	t.Helper()
	if e != want || e != api.OK && !automaton.Equal(a, api.Automaton{}) {
		t.Errorf("%s: %v, %d, not %d", about, a, e, want)
	}
}

// P21.1: the words of Alternate.
func TestAlternate(t *testing.T) {
	a, e := requirement.Alternate(ints{3, 1})
	want := api.Automaton{Alphabet: ints{1, 3}, States: 2, Marked: ints{0}, Edges: edges([3]int{0, 3, 1}, [3]int{1, 1, 0})}
	if !automaton.Equal(a, want) || e != api.OK {
		t.Errorf("the first example: %v, %d", a, e)
	}
	for _, events := range []ints{{0}, {31}, {0, 31}, {5, 2}, {0, 1, 2}, {2, 0, 1}, {2, 1, 0}, {9, 4, 7, 1}} {
		a, e := requirement.Alternate(events)
		expectPattern(t, fmt.Sprint("Alternate ", events), a, e, events, len(events), func(w ints) bool {
			return len(w) == 0 || w[len(w)-1] == events[(len(w)-1)%len(events)]
		}, func(w ints) bool { return len(w)%len(events) == 0 })
	}
	var all ints
	for event := range 32 {
		all = append(all, 31-event)
	}
	a, e = requirement.Alternate(all)
	if state, done, e2 := automaton.Run(a, 0, append(slices.Clone(all), all[:7]...)); e != api.OK || a.States != 32 || state != 7 || done != 39 || e2 != api.OK {
		t.Errorf("all events: %v, %d", a, e)
	}
}

// P21.1: the errors of Alternate.
func TestErrorsOfAlternate(t *testing.T) {
	for i, c := range []struct {
		events ints
		e      api.Errno
	}{
		{nil, api.ErrEmpty},
		{ints{}, api.ErrEmpty},
		{ints{-1}, api.ErrRange},
		{ints{32}, api.ErrRange},
		{ints{0, math.MaxInt}, api.ErrRange},
		{ints{0, math.MinInt}, api.ErrRange},
		{ints{3, 3}, api.ErrDuplicate},
		{ints{3, 1, 2, 3}, api.ErrDuplicate},
		{ints{3, 3, 32}, api.ErrDuplicate},
		{ints{3, 32, 3}, api.ErrRange},
		{ints{32, 32}, api.ErrRange},
	} {
		a, e := requirement.Alternate(c.events)
		expectError(t, fmt.Sprint(i), a, e, c.e)
	}
}

// P21.1: Never.
func TestNever(t *testing.T) {
	for _, events := range []ints{nil, {0}, {31}, {1, 5, 9}} {
		a, e := requirement.Never(events)
		want := api.Automaton{Alphabet: events, States: 1, Marked: ints{0}}
		if !automaton.Equal(a, want) || e != api.OK {
			t.Errorf("Never %v: %v, %d", events, a, e)
		}
	}
	for i, c := range []struct {
		events ints
		e      api.Errno
	}{
		{ints{-1}, api.ErrRange},
		{ints{0, 32, 1}, api.ErrRange},
		{ints{1, 1}, api.ErrOrder},
		{ints{2, 1, 32}, api.ErrOrder},
		{ints{math.MinInt}, api.ErrRange},
	} {
		a, e := requirement.Never(c.events)
		expectError(t, fmt.Sprint(i), a, e, c.e)
	}
}

// P21.2, P21.7: the words of Buffer.
func TestBuffer(t *testing.T) {
	a, e := requirement.Buffer(ints{0}, ints{1}, 2)
	want := api.Automaton{Alphabet: ints{0, 1}, States: 3, Marked: ints{0}, Edges: edges([3]int{0, 0, 1}, [3]int{1, 0, 2}, [3]int{1, 1, 0}, [3]int{2, 1, 1})}
	if !automaton.Equal(a, want) || e != api.OK {
		t.Errorf("the second example: %v, %d", a, e)
	}
	for i, state := range []int{0, 2} {
		if refused, e := requirement.Refused(a, state); !slices.Equal(refused, ints{1 - i}) || e != api.OK {
			t.Errorf("the second example: Refused(%d) = %v, %d", state, refused, e)
		}
	}
	for _, c := range []struct {
		put, take ints
		capacity  int
		states    int
	}{
		{ints{0}, ints{1}, 1, 2},
		{ints{1}, ints{0}, 3, 4},
		{ints{0, 2}, ints{1}, 2, 3},
		{ints{4}, ints{0, 31}, 4, 5},
		{ints{1, 2}, ints{0, 3}, 1, 2},
		{ints{1, 2}, nil, 3, 4},
		{nil, ints{1, 2}, 3, 1},
		{nil, nil, 3, 1},
		{ints{7}, ints{3}, 30, 31},
	} {
		a, e := requirement.Buffer(c.put, c.take, c.capacity)
		parts := func(w ints) int { return countOf(w, in(c.put)) - countOf(w, in(c.take)) }
		expectPattern(t, fmt.Sprint("Buffer ", c), a, e, slices.Concat(c.put, c.take), c.states, func(w ints) bool {
			return parts(w) >= 0 && parts(w) <= c.capacity
		}, func(w ints) bool { return parts(w) == 0 })
	}
	a, e = requirement.Buffer(ints{0}, ints{1}, 1024)
	if state, done, e2 := automaton.Run(a, 0, slices.Repeat(ints{0}, 1025)); e != api.OK || a.States != 1025 || state != 1024 || done != 1024 || e2 != api.OK {
		t.Errorf("the greatest capacity: %d states, %d", a.States, e)
	}
}

// P21.2: the errors of Buffer and Precede.
func TestErrorsOfBufferAndPrecede(t *testing.T) {
	for i, c := range []struct {
		first, second ints
		capacity      int
		e             api.Errno
	}{
		{ints{-1}, ints{2, 1}, 0, api.ErrRange},
		{ints{0, 32}, ints{2, 1}, 0, api.ErrRange},
		{ints{1, 0, 32}, ints{32}, 0, api.ErrOrder},
		{ints{0, 0}, ints{0}, 0, api.ErrOrder},
		{ints{0}, ints{0, 32}, 0, api.ErrRange},
		{ints{0}, ints{-1, 0}, 0, api.ErrRange},
		{ints{0}, ints{1, 0, 0}, 0, api.ErrOrder},
		{ints{0}, ints{0}, 0, api.ErrConflict},
		{ints{0, 3, 5}, ints{1, 3, 4}, 2000, api.ErrConflict},
	} {
		a, e := requirement.Buffer(c.first, c.second, c.capacity)
		expectError(t, fmt.Sprint("Buffer ", i), a, e, c.e)
		a, e = requirement.Precede(c.first, c.second)
		expectError(t, fmt.Sprint("Precede ", i), a, e, c.e)
	}
	for _, capacity := range []int{0, -1, 1025, math.MinInt, math.MaxInt} {
		a, e := requirement.Buffer(ints{0}, ints{1}, capacity)
		expectError(t, fmt.Sprint("Buffer ", capacity), a, e, api.ErrRange)
	}
	if requirement.MaxCapacity != 1024 || requirement.MaxPhases != 10 {
		t.Error("the limits")
	}
}

// P21.2: the words of Precede.
func TestPrecede(t *testing.T) {
	a, e := requirement.Precede(ints{4}, ints{2})
	want := api.Automaton{Alphabet: ints{2, 4}, States: 2, Marked: ints{0, 1}, Edges: edges([3]int{0, 4, 1}, [3]int{1, 2, 1}, [3]int{1, 4, 1})}
	if !automaton.Equal(a, want) || e != api.OK {
		t.Errorf("Precede: %v, %d", a, e)
	}
	for _, c := range []struct {
		first, second ints
		states        int
	}{
		{ints{0}, ints{1}, 2},
		{ints{1, 3}, ints{0, 31}, 2},
		{ints{5}, ints{0, 2, 9}, 2},
		{ints{5, 6}, nil, 2},
		{nil, ints{5, 6}, 1},
		{nil, nil, 1},
	} {
		a, e := requirement.Precede(c.first, c.second)
		expectPattern(t, fmt.Sprint("Precede ", c), a, e, slices.Concat(c.first, c.second), c.states, func(w ints) bool {
			second := slices.IndexFunc(w, in(c.second))
			return second < 0 || slices.ContainsFunc(w[:second], in(c.first))
		}, always)
	}
}

// subsets is the number of sets of at most so many of n things.
func subsets(n, most int) int {
	if n == 0 || most == 0 {
		return 1
	}
	return subsets(n-1, most) + subsets(n-1, most-1)
}

// P21.3, P21.7: the words of AtMost.
func TestAtMost(t *testing.T) {
	a, e := requirement.AtMost(phases([2]int{0, 1}, [2]int{2, 3}), 1)
	want := api.Automaton{Alphabet: ints{0, 1, 2, 3}, States: 3, Marked: ints{0, 1, 2}, Edges: edges([3]int{0, 0, 1}, [3]int{0, 2, 2}, [3]int{1, 1, 0}, [3]int{2, 3, 0})}
	if !automaton.Equal(a, want) || e != api.OK {
		t.Errorf("the third example: %v, %d", a, e)
	}
	if refused, e := requirement.Refused(a, 1); !slices.Contains(refused, 2) || e != api.OK {
		t.Errorf("the third example: Refused = %v, %d", refused, e)
	}
	for _, c := range []struct {
		phases []phase
		most   int
	}{
		{nil, 0},
		{phases([2]int{4, 2}), 0},
		{phases([2]int{4, 2}), 1},
		{phases([2]int{4, 2}, [2]int{0, 31}), 0},
		{phases([2]int{4, 2}, [2]int{0, 31}), 1},
		{phases([2]int{4, 2}, [2]int{0, 31}), 2},
		{phases([2]int{1, 2}, [2]int{3, 0}, [2]int{5, 4}), 1},
		{phases([2]int{5, 2}, [2]int{3, 0}, [2]int{1, 4}), 2},
		{phases([2]int{0, 1}, [2]int{2, 3}, [2]int{4, 5}), 3},
	} {
		a, e := requirement.AtMost(c.phases, c.most)
		var events ints
		for _, x := range c.phases {
			events = append(events, x.Enter, x.Leave)
		}
		expectPattern(t, fmt.Sprint("AtMost ", c), a, e, events, subsets(len(c.phases), c.most), func(w ints) bool {
			all := 0
			for _, x := range c.phases {
				entered := countOf(w, isOne(x.Enter)) - countOf(w, isOne(x.Leave))
				if entered != 0 && entered != 1 {
					return false
				}
				all += entered
			}
			return all <= c.most
		}, always)
	}
}

// P21.3: as many phases as permitted.
func TestAtMostManyPhases(t *testing.T) {
	var ten []phase
	for i := range 10 {
		ten = append(ten, phase{Enter: 3 * i, Leave: 3*i + 1})
	}
	for most := range 11 {
		a, e := requirement.AtMost(ten, most)
		if e != api.OK || a.States != subsets(10, most) || len(a.Marked) != a.States || !automaton.IsCanonical(a) || len(a.Alphabet) != 20 {
			t.Errorf("most %d: %d states, %d", most, a.States, e)
		}
	}
	a, e := requirement.AtMost(append(ten, phase{Enter: 30, Leave: 31}), 1)
	expectError(t, "eleven phases", a, e, api.ErrLimit)
	a, e = requirement.AtMost(make([]phase, 11), -1)
	expectError(t, "eleven equal phases", a, e, api.ErrLimit)
}

// P21.3: the errors of AtMost.
func TestErrorsOfAtMost(t *testing.T) {
	for i, c := range []struct {
		phases []phase
		most   int
		e      api.Errno
	}{
		{phases([2]int{-1, -1}), 9, api.ErrRange},
		{phases([2]int{0, 32}), 9, api.ErrRange},
		{phases([2]int{0, 1}, [2]int{32, 32}), 9, api.ErrRange},
		{phases([2]int{0, 1}, [2]int{2, -1}, [2]int{0, 1}), 9, api.ErrRange},
		{phases([2]int{3, 3}, [2]int{32, 32}), 9, api.ErrDuplicate},
		{phases([2]int{0, 1}, [2]int{1, 32}), 9, api.ErrDuplicate},
		{phases([2]int{0, 1}, [2]int{0, 32}), 9, api.ErrDuplicate},
		{phases([2]int{0, 1}, [2]int{2, 0}, [2]int{32, 32}), 9, api.ErrDuplicate},
		{phases([2]int{0, 1}, [2]int{2, 1}), 9, api.ErrDuplicate},
		{phases([2]int{0, 1}, [2]int{2, 2}), 9, api.ErrDuplicate},
		{phases([2]int{0, 1}, [2]int{2, 3}), 3, api.ErrRange},
		{phases([2]int{0, 1}, [2]int{2, 3}), -1, api.ErrRange},
		{phases([2]int{0, 1}, [2]int{2, 3}), math.MaxInt, api.ErrRange},
		{nil, 1, api.ErrRange},
		{nil, -1, api.ErrRange},
	} {
		a, e := requirement.AtMost(c.phases, c.most)
		expectError(t, fmt.Sprint(i), a, e, c.e)
	}
}

// P21.4: the words of Between.
func TestBetween(t *testing.T) {
	a, e := requirement.Between(0, 1, 2, 0)
	want := api.Automaton{Alphabet: ints{0, 1, 2}, States: 2, Marked: ints{0, 1}, Edges: edges([3]int{0, 0, 0}, [3]int{0, 1, 1}, [3]int{0, 2, 0}, [3]int{1, 1, 1}, [3]int{1, 2, 0})}
	if !automaton.Equal(a, want) || e != api.OK {
		t.Errorf("the fourth example: %v, %d", a, e)
	}
	for _, c := range [][4]int{{0, 1, 2, 0}, {0, 1, 2, 1}, {2, 1, 0, 2}, {1, 2, 0, 1}, {31, 0, 7, 3}, {5, 31, 4, 1}, {3, 1, 2, 6}} {
		event, open, shut, most := c[0], c[1], c[2], c[3]
		a, e := requirement.Between(event, open, shut, most)
		expectPattern(t, fmt.Sprint("Between ", c), a, e, c[:3], most+2, func(w ints) bool {
			last := max(lastOf(w, open), lastOf(w, shut))
			if last < 0 || w[last] == shut {
				return true
			}
			return len(w)-1-last <= most
		}, always)
	}
	a, e = requirement.Between(0, 1, 2, 1024)
	word := append(ints{1}, make(ints, 1025)...)
	if state, done, e2 := automaton.Run(a, 0, word); e != api.OK || a.States != 1026 || state != 1025 || done != 1025 || e2 != api.OK {
		t.Errorf("the greatest number: %d states, %d", a.States, e)
	}
}

func lastOf(w ints, event int) int {
	for i := len(w) - 1; i >= 0; i-- {
		if w[i] == event {
			return i
		}
	}
	return -1
}

// P21.4: the errors of Between.
func TestErrorsOfBetween(t *testing.T) {
	for i, c := range []struct {
		event, open, shut, most int
		e                       api.Errno
	}{
		{-1, 0, 0, -1, api.ErrRange},
		{32, 1, 2, 0, api.ErrRange},
		{0, -1, 2, 0, api.ErrRange},
		{0, 32, 2, 0, api.ErrRange},
		{0, 0, -1, 0, api.ErrRange},
		{0, 0, 32, 0, api.ErrRange},
		{0, 0, math.MaxInt, 0, api.ErrRange},
		{0, 0, 1, -1, api.ErrDuplicate},
		{0, 1, 0, -1, api.ErrDuplicate},
		{1, 0, 0, 1025, api.ErrDuplicate},
		{0, 1, 2, -1, api.ErrRange},
		{0, 1, 2, 1025, api.ErrRange},
		{0, 1, 2, math.MinInt, api.ErrRange},
	} {
		a, e := requirement.Between(c.event, c.open, c.shut, c.most)
		expectError(t, fmt.Sprint(i), a, e, c.e)
	}
}

// P21.7: Alternate of a put and a take is the buffer of the capacity 1; patterns of safety are safety requirements.
func TestConsequencesOfPatterns(t *testing.T) {
	r := rand.New(rand.NewSource(21))
	for range 200 {
		l := r.Perm(32)
		alternate, e1 := requirement.Alternate(l[:2])
		buffer, e2 := requirement.Buffer(l[:1], l[1:2], 1)
		if !automaton.Equal(alternate, buffer) || e1 != api.OK || e2 != api.OK {
			t.Errorf("%v: %v, but %v", l[:2], alternate, buffer)
		}
		slices.Sort(l[:4])
		slices.Sort(l[4:7])
		a, e3 := requirement.AtMost(phases([2]int{l[0], l[1]}, [2]int{l[2], l[3]}), r.Intn(3))
		b, e4 := requirement.Precede(l[:4], l[4:7])
		c, e5 := requirement.Between(l[0], l[1], l[2], r.Intn(9))
		d, e6 := requirement.Never(l[:4])
		for _, x := range []api.Automaton{a, b, c, d} {
			if is, e := requirement.IsSafety(x); !is || e != api.OK {
				t.Errorf("%v is not a safety requirement", x)
			}
		}
		if max(e3, e4, e5, e6) != api.OK {
			t.Errorf("%v: %d, %d, %d, %d", l, e3, e4, e5, e6)
		}
	}
}

// P1, P21: arguments stay as they are, and results share nothing with them.
func TestPatternsShareNothing(t *testing.T) {
	events, others, some := ints{3, 5}, ints{1, 8}, phases([2]int{6, 2})
	before := fmt.Sprint(events, others, some)
	for _, make := range []func() (api.Automaton, api.Errno){
		func() (api.Automaton, api.Errno) { return requirement.Alternate(events) },
		func() (api.Automaton, api.Errno) { return requirement.Buffer(events, others, 2) },
		func() (api.Automaton, api.Errno) { return requirement.Buffer(events, nil, 2) },
		func() (api.Automaton, api.Errno) { return requirement.Buffer(nil, others, 2) },
		func() (api.Automaton, api.Errno) { return requirement.Precede(events, others) },
		func() (api.Automaton, api.Errno) { return requirement.Precede(events, nil) },
		func() (api.Automaton, api.Errno) { return requirement.AtMost(some, 1) },
		func() (api.Automaton, api.Errno) { return requirement.Never(events) },
	} {
		a, e := make()
		for i := range a.Alphabet {
			a.Alphabet[i] = -9
		}
		if b, _ := make(); e != api.OK || automaton.Equal(a, b) || fmt.Sprint(events, others, some) != before {
			t.Errorf("%v, %d: the arguments are %v %v %v", a, e, events, others, some)
		}
	}
	if _, e := requirement.Alternate(ints{5, 3}); e != api.OK {
		t.Errorf("Alternate: %d", e)
	}
	mixed := ints{9, 2, 4}
	if requirement.Alternate(mixed); !slices.Equal(mixed, ints{9, 2, 4}) {
		t.Errorf("Alternate sorts its argument: %v", mixed)
	}
}

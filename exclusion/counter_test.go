package exclusion_test

import (
	"fmt"
	"math"
	"math/rand"
	"reflect"
	"slices"
	"testing"

	"overseer/api"
	"overseer/automaton"
	"overseer/exclusion"
)

type count = exclusion.Count

// P20.6: the chapter's third example, and others.
func TestCounter(t *testing.T) {
	for i, c := range []struct {
		x    count
		want api.Automaton
	}{
		{count{Events: ints{0, 3}, Factors: ints{1, -1}, High: 2, Marked: ints{0}}, api.Automaton{Alphabet: ints{0, 3}, States: 3, Marked: ints{0}, Edges: []api.Edge{{From: 0, Event: 0, To: 1}, {From: 1, Event: 0, To: 2}, {From: 1, Event: 3, To: 0}, {From: 2, Event: 3, To: 1}}}},
		{count{}, api.Automaton{States: 1}},
		{count{Low: -3, High: 3, Marked: ints{-3, 0, 3}}, api.Automaton{States: 1, Marked: ints{0}}},
		{count{Events: ints{5}, Factors: ints{0}}, api.Automaton{Alphabet: ints{5}, States: 1, Edges: []api.Edge{{Event: 5}}}},
		{count{Events: ints{5}, Factors: ints{3}, Low: -65536, High: 65536}, api.Automaton{}},
		{count{Events: ints{1, 2}, Factors: ints{2, -3}, Low: -1, High: 2, Marked: ints{-1, 1, 2}}, api.Automaton{Alphabet: ints{1, 2}, States: 4, Marked: ints{1, 2, 3}, Edges: []api.Edge{{From: 0, Event: 1, To: 1}, {From: 1, Event: 2, To: 2}, {From: 2, Event: 1, To: 3}}}},
	} {
		a, e := exclusion.Counter(c.x)
		if c.want.States == 0 {
			if e != api.ErrLimit || !reflect.DeepEqual(a, api.Automaton{}) {
				t.Errorf("%d: Counter = %v, %d", i, a, e)
			}
			continue
		}
		if !automaton.Equal(a, c.want) || e != api.OK {
			t.Errorf("%d: Counter = %v, %d, not %v", i, a, e, c.want)
		}
	}
}

// P20.6: the errors, and of two errors the first one.
func TestErrorsOfCounter(t *testing.T) {
	good := func() count {
		return count{Events: ints{0, 3, 31}, Factors: ints{65536, -65536, 1}, Low: -65536, High: 65536, Marked: ints{-65536, 0, 65536}}
	}
	damages := []struct {
		e      api.Errno
		damage func(x *count)
	}{
		{api.ErrRange, func(x *count) { x.Events[0] = -1 }},
		{api.ErrOrder, func(x *count) { x.Events[1] = 0 }},
		{api.ErrSize, func(x *count) { x.Factors = append(x.Factors, 65537) }},
		{api.ErrRange, func(x *count) { x.Factors[1] = -65537 }},
		{api.ErrRange, func(x *count) { x.Low = 1 }},
		{api.ErrRange, func(x *count) { x.High = 65537 }},
		{api.ErrRange, func(x *count) { x.Marked[0] = -65537 }},
		{api.ErrOrder, func(x *count) { x.Marked[1] = -65536 }},
		{api.ErrRange, func(x *count) { x.Marked[2] = 65537 }},
		{api.ErrLimit, func(x *count) {}},
	}
	for i, first := range damages {
		for k := i; k < len(damages); k++ {
			x := good()
			damages[k].damage(&x)
			first.damage(&x)
			if a, e := exclusion.Counter(x); !reflect.DeepEqual(a, api.Automaton{}) || e != first.e {
				t.Errorf("%d and %d: Counter = %v, %d, not %d", i, k, a, e, first.e)
			}
		}
	}
	for i, c := range []struct {
		e      api.Errno
		damage func(x *count)
	}{
		{api.OK, func(x *count) { x.Factors[2] = 0 }},
		{api.ErrSize, func(x *count) { x.Factors = x.Factors[:2] }},
		{api.ErrSize, func(x *count) { x.Factors = nil }},
		{api.ErrRange, func(x *count) { x.Events[2] = 32 }},
		{api.ErrRange, func(x *count) { x.Factors[0] = 65537 }},
		{api.ErrRange, func(x *count) { x.Factors[2] = math.MinInt }},
		{api.ErrRange, func(x *count) { x.Low = -65537 }},
		{api.ErrRange, func(x *count) { *x = count{Low: 1, High: 5} }},
		{api.ErrRange, func(x *count) { *x = count{Low: -5, High: -1} }},
		{api.ErrRange, func(x *count) { *x = count{Low: -65537} }},
		{api.ErrRange, func(x *count) { *x = count{High: 65537} }},
		{api.OK, func(x *count) { *x = count{Low: -65536, High: 65536} }},
		{api.ErrRange, func(x *count) { x.Low, x.Factors[2] = math.MinInt, 0 }},
		{api.ErrRange, func(x *count) { x.High = -1 }},
		{api.ErrRange, func(x *count) { x.High = math.MaxInt }},
		{api.ErrOrder, func(x *count) { x.Marked = ints{5, 5}; x.Factors[2] = 0 }},
		{api.ErrOrder, func(x *count) { x.Marked = ints{5, 4}; x.Factors[2] = 0 }},
		{api.ErrRange, func(x *count) { x.Low, x.Marked = -2, ints{-3, -4} }},
		{api.ErrRange, func(x *count) { x.High, x.Marked = 2, ints{3} }},
		{api.OK, func(x *count) { x.Low, x.High, x.Marked = 0, 0, ints{0} }},
		{api.OK, func(x *count) { x.Low, x.High, x.Marked = -4095, 0, nil; x.Factors[2] = -1 }},
		{api.OK, func(x *count) { x.Low, x.High, x.Marked = -2000, 2095, nil }},
		{api.ErrLimit, func(x *count) { x.Low, x.High, x.Marked, x.Factors[1] = -2000, 2096, nil, -1 }},
		{api.ErrLimit, func(x *count) { x.Low, x.High, x.Marked = 0, 4096, nil }},
		{api.OK, func(x *count) { x.Low, x.High, x.Marked = 0, 4095, nil }},
	} {
		x := good()
		c.damage(&x)
		a, e := exclusion.Counter(x)
		if e != c.e || e != api.OK && !reflect.DeepEqual(a, api.Automaton{}) {
			t.Errorf("%d: Counter = %d states, %d, not %d", i, a.States, e, c.e)
		}
	}
	full, e := exclusion.Counter(count{Events: ints{0}, Factors: ints{1}, High: 4095, Marked: ints{0, 4095}})
	if full.States != 4096 || !slices.Equal(full.Marked, ints{0, 4095}) || e != api.OK {
		t.Errorf("Counter = %d states, %d", full.States, e)
	}
}

// P20.6, P20.7: a word belongs to the language of a counter exactly if all of its sums are within the bounds, and is marked as its sum is.
func TestRandomCounters(t *testing.T) {
	r := rand.New(rand.NewSource(5))
	long, states := 0, 0
	for range 2000 {
		var x count
		for event := range 6 {
			if r.Intn(2) == 0 {
				x.Events, x.Factors = append(x.Events, event), append(x.Factors, r.Intn(7)-3)
			}
		}
		x.Low, x.High = -r.Intn(6), r.Intn(6)
		for sum := x.Low; sum <= x.High; sum++ {
			if r.Intn(2) == 0 {
				x.Marked = append(x.Marked, sum)
			}
		}
		before := fmt.Sprint(x)
		a, e := exclusion.Counter(x)
		if e != api.OK || automaton.Check(a) != api.OK || !automaton.IsCanonical(a) || !slices.Equal(a.Alphabet, x.Events) {
			t.Fatalf("Counter(%v) = %v, %d", x, a, e)
		}
		states = max(states, a.States)
		sums := map[int]int{0: 0}
		for range 20 {
			if len(x.Events) > 0 && follow(t, r, x, a, sums) {
				long++
			}
		}
		clear(a.Alphabet)
		if fmt.Sprint(x) != before {
			t.Fatalf("%s was changed to %v", before, x)
		}
	}
	if long < 3000 || states < 11 {
		t.Errorf("%d, %d", long, states)
	}
}

// follow checks a drawn word, and that each sum has one state. It reports whether the word is possible.
func follow(t *testing.T, r *rand.Rand, x count, a api.Automaton, sums map[int]int) bool {
	t.Helper()
	sum := 0
	var word ints
	for range 8 {
		i := r.Intn(len(x.Events))
		word = append(word, x.Events[i])
		sum += x.Factors[i]
		state, done, e := automaton.Run(a, 0, word)
		if possible := x.Low <= sum && sum <= x.High; possible != (done == len(word)) || e != api.OK {
			t.Fatalf("Counter(%v) = %v: %v is possible: %v", x, a, word, !possible)
		}
		if done < len(word) {
			return false
		}
		if known, is := sums[sum]; is && known != state || slices.Contains(a.Marked, state) != slices.Contains(x.Marked, sum) {
			t.Fatalf("Counter(%v) = %v: %d is the state %d", x, a, sum, state)
		}
		sums[sum] = state
		if len(sums) > a.States {
			t.Fatalf("Counter(%v) = %v: %v", x, a, sums)
		}
	}
	return true
}

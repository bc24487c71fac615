package blocking_test

import (
	"fmt"
	"math"
	"math/rand"
	"reflect"
	"slices"
	"testing"

	"overseer/api"
	"overseer/automaton"
	"overseer/blocking"
	"overseer/product"
	"overseer/reach"
)

type (
	ints = []int
	list = []api.Automaton
)

// machine returns an automaton; edges are from a state, by an event, to a state.
func machine(alphabet ints, states int, marked ints, edges ...[3]int) api.Automaton {
	a := api.Automaton{Alphabet: alphabet, States: states, Marked: marked}
	for _, x := range edges {
		a.Edges = append(a.Edges, api.Edge{From: x[0], Event: x[1], To: x[2]})
	}
	return a
}

// example is the automaton of the chapter's first example: a is 0, b is 1, c is 2.
func example() api.Automaton {
	return machine(ints{0, 1, 2}, 5, ints{1}, [3]int{0, 0, 1}, [3]int{0, 1, 2}, [3]int{0, 2, 4}, [3]int{2, 0, 3}, [3]int{3, 0, 2})
}

// waiting are the automata of the chapter's second example, with the state of the second one that is marked.
func waiting(second int) list {
	return list{
		machine(ints{0, 1}, 2, ints{0}, [3]int{0, 0, 1}, [3]int{1, 1, 0}),
		machine(ints{0, 1}, 2, ints{second}, [3]int{0, 1, 1}, [3]int{1, 0, 0}),
	}
}

// ring returns an automaton in which an event leads from each state to the next one, and from the last one to the first one, which is marked.
func ring(n, event int) api.Automaton {
	a := machine(ints{event}, n, ints{0})
	for s := range n {
		a.Edges = append(a.Edges, api.Edge{From: s, Event: event, To: (s + 1) % n})
	}
	return a
}

// some draws numbers below n, each with the chance of one in few.
func some(r *rand.Rand, n, few int) ints {
	var set ints
	for x := range n {
		if r.Intn(few) == 0 {
			set = append(set, x)
		}
	}
	return set
}

// draw draws a small automaton, in which states need not be reached.
func draw(r *rand.Rand) api.Automaton {
	a := api.Automaton{Alphabet: some(r, 4, 1+r.Intn(2)), States: 1 + r.Intn(7)}
	a.Marked = some(r, a.States, 2+r.Intn(4))
	dense := 1 + r.Intn(5)
	for s := range a.States {
		for _, x := range a.Alphabet {
			if r.Intn(8) < dense {
				a.Edges = append(a.Edges, api.Edge{From: s, Event: x, To: r.Intn(a.States)})
			}
		}
	}
	return a
}

func drawn(r *rand.Rand) list {
	l := list{{}, {Alphabet: ints{0, 31}}, {States: 1}, {States: 1, Marked: ints{0}}, example(), ring(5, 3)}
	for range 600 {
		l = append(l, draw(r))
	}
	return l
}

// drawnLists returns lists of up to three automata, some of them empty.
func drawnLists(r *rand.Rand) []list {
	l := []list{nil, {{}}, {example(), {}}, waiting(0), waiting(1)}
	for range 2000 {
		var few list
		for range r.Intn(4) {
			a := draw(r)
			if r.Intn(2) == 0 { // only a few are not marked
				unmarked := some(r, a.States, 4)
				a.Marked = slices.DeleteFunc(some(r, a.States, 1), func(s int) bool { return slices.Contains(unmarked, s) })
			}
			few = append(few, a)
		}
		l = append(l, few)
	}
	return l
}

func before(a, b ints) bool {
	return len(a) < len(b) || len(a) == len(b) && slices.Compare(a, b) < 0
}

// leastWords returns the least word that leads from a state to each one that can be reached from it: words are made better by edges until none is.
func leastWords(a api.Automaton, from int) map[int]ints {
	least := map[int]ints{}
	if from < a.States {
		least[from] = ints{}
	}
	for changed := true; changed; {
		changed = false
		for _, x := range a.Edges {
			w, reached := least[x.From]
			if !reached {
				continue
			}
			w = append(slices.Clone(w), x.Event)
			if old, is := least[x.To]; !is || before(w, old) {
				least[x.To], changed = w, true
			}
		}
	}
	return least
}

// leastTo returns the least word that leads from a state to one for which a function is true.
func leastTo(a api.Automaton, from int, is func(s int) bool) (word ints, found bool) {
	for s, w := range leastWords(a, from) {
		if is(s) && (!found || before(w, word)) {
			word, found = w, true
		}
	}
	return word, found
}

func isMarked(a api.Automaton) func(s int) bool {
	return func(s int) bool { return slices.Contains(a.Marked, s) }
}

func isBlocked(a api.Automaton) func(s int) bool {
	return func(s int) bool {
		_, found := leastTo(a, s, isMarked(a))
		return !found
	}
}

func hasEdge(a api.Automaton, s int) bool {
	return slices.ContainsFunc(a.Edges, func(x api.Edge) bool { return x.From == s })
}

// kindOf returns the kind of a state by the words of the chapter.
func kindOf(a api.Automaton, s int) int {
	isDeadlock := func(s int) bool { return isBlocked(a)(s) && !hasEdge(a, s) }
	_, toDeadlock := leastTo(a, s, isDeadlock)
	switch {
	case isMarked(a)(s):
		return blocking.Marked
	case !isBlocked(a)(s):
		return blocking.Live
	case isDeadlock(s):
		return blocking.Deadlock
	case toDeadlock:
		return blocking.Doomed
	}
	return blocking.Livelock
}

// P24.1, P24.3, P24.4: the chapter's first example.
func TestExample(t *testing.T) {
	a := example()
	if l, e := blocking.Kinds(a); !slices.Equal(l, ints{blocking.Live, blocking.Marked, blocking.Livelock, blocking.Livelock, blocking.Deadlock}) || e != api.OK {
		t.Errorf("Kinds = %v, %d", l, e)
	}
	if l, e := blocking.Ranks(a); !slices.Equal(l, ints{1, 0, -1, -1, -1}) || e != api.OK {
		t.Errorf("Ranks = %v, %d", l, e)
	}
	if l, e := blocking.Blocked(a); !slices.Equal(l, ints{2, 3, 4}) || e != api.OK {
		t.Errorf("Blocked = %v, %d", l, e)
	}
	if w, is, e := blocking.Nonblocking(list{a}); !slices.Equal(w, ints{1}) || is || e != api.OK {
		t.Errorf("Nonblocking = %v, %v, %d", w, is, e)
	}
	traps, without, e := blocking.Traps(a)
	if !reflect.DeepEqual(traps, []ints{{1}, {2, 3}, {4}}) || !slices.Equal(without, ints{1, 2}) || e != api.OK {
		t.Errorf("Traps = %v, %v, %d", traps, without, e)
	}
	if w, found, e := blocking.Shortest(a, 0); !slices.Equal(w, ints{0}) || !found || e != api.OK {
		t.Errorf("Shortest = %v, %v, %d", w, found, e)
	}
	for kind, word := range map[int]ints{blocking.Marked: {0}, blocking.Live: {}, blocking.Deadlock: {2}, blocking.Livelock: {1}} {
		if w, found, e := blocking.Escape(a, kind); !slices.Equal(w, word) || !found || e != api.OK {
			t.Errorf("Escape to %d = %v, %v, %d", kind, w, found, e)
		}
	}
	if w, found, e := blocking.Escape(a, blocking.Doomed); len(w) > 0 || found || e != api.OK {
		t.Errorf("Escape to what is doomed = %v, %v, %d", w, found, e)
	}
}

// P24.2, P24.5: the chapter's second and third examples.
func TestExamplesOfLists(t *testing.T) {
	if w, is, e := blocking.Nonblocking(waiting(0)); len(w) > 0 || !is || e != api.OK {
		t.Errorf("Nonblocking = %v, %v, %d", w, is, e)
	}
	if e := blocking.Verify(waiting(0), ints{0}); e != api.OK {
		t.Errorf("Verify: %d", e)
	}
	if l, e := blocking.Culprits(waiting(0)); len(l) > 0 || e != api.ErrState {
		t.Errorf("Culprits = %v, %d", l, e)
	}
	if w, is, e := blocking.Nonblocking(waiting(1)); len(w) > 0 || is || e != api.OK {
		t.Errorf("Nonblocking = %v, %v, %d", w, is, e)
	}
	if e := blocking.Verify(waiting(1), ints{0}); e != api.ErrCertificate {
		t.Errorf("Verify: %d", e)
	}
	if l, e := blocking.Culprits(waiting(1)); !slices.Equal(l, ints{0, 1}) || e != api.OK {
		t.Errorf("Culprits = %v, %d", l, e)
	}
}

// P24.1, P24.6: kinds, ranks and blocked states, also of states that cannot be reached.
func TestStates(t *testing.T) {
	counts := map[int]int{}
	for _, a := range drawn(rand.New(rand.NewSource(1))) {
		var kinds, ranks, blocked ints
		for s := range a.States {
			kinds = append(kinds, kindOf(a, s))
			counts[kindOf(a, s)]++
			if w, found := leastTo(a, s, isMarked(a)); found {
				ranks = append(ranks, len(w))
			} else {
				ranks, blocked = append(ranks, -1), append(blocked, s)
			}
		}
		if l, e := blocking.Kinds(a); !slices.Equal(l, kinds) || e != api.OK {
			t.Errorf("Kinds(%v) = %v, %d, not %v", a, l, e, kinds)
		}
		if l, e := blocking.Ranks(a); !slices.Equal(l, ranks) || e != api.OK {
			t.Errorf("Ranks(%v) = %v, %d, not %v", a, l, e, ranks)
		}
		if l, e := blocking.Blocked(a); !slices.Equal(l, blocked) || e != api.OK {
			t.Errorf("Blocked(%v) = %v, %d, not %v", a, l, e, blocked)
		}
	}
	for kind := blocking.Marked; kind <= blocking.Doomed; kind++ {
		if counts[kind] < 100 {
			t.Errorf("only %d states have the kind %d", counts[kind], kind)
		}
	}
}

// P24.3: the least words to marked states, and to states of a kind.
func TestWords(t *testing.T) {
	for _, a := range drawn(rand.New(rand.NewSource(2))) {
		for s := range a.States {
			want, is := leastTo(a, s, isMarked(a))
			if w, found, e := blocking.Shortest(a, s); !slices.Equal(w, want) || found != is || e != api.OK {
				t.Errorf("Shortest(%v, %d) = %v, %v, %d, not %v", a, s, w, found, e, want)
			}
		}
		for _, s := range []int{-1, a.States, math.MinInt, math.MaxInt} {
			if w, found, e := blocking.Shortest(a, s); len(w) > 0 || found || e != api.ErrRange {
				t.Errorf("Shortest(%v, %d) = %v, %v, %d", a, s, w, found, e)
			}
		}
		for kind := blocking.Marked; kind <= blocking.Doomed; kind++ {
			want, is := leastTo(a, 0, func(s int) bool { return kindOf(a, s) == kind })
			if w, found, e := blocking.Escape(a, kind); !slices.Equal(w, want) || found != is || e != api.OK {
				t.Errorf("Escape(%v, %d) = %v, %v, %d, not %v", a, kind, w, found, e, want)
			}
		}
		for _, kind := range []int{0, 6, -1, math.MinInt, math.MaxInt} {
			if w, found, e := blocking.Escape(a, kind); len(w) > 0 || found || e != api.ErrKind {
				t.Errorf("Escape(%v, %d) = %v, %v, %d", a, kind, w, found, e)
			}
		}
	}
}

// P24.2, P24.6: the least word to a blocked state of the product, and what can be done after it.
func TestNonblocking(t *testing.T) {
	nonblocking, long := 0, 0
	for _, l := range drawnLists(rand.New(rand.NewSource(3))) {
		p, tuples, _ := product.Synchronous(l)
		want, found := leastTo(p, 0, isBlocked(p))
		w, is, e := blocking.Nonblocking(l)
		if !slices.Equal(w, want) || is == found || e != api.OK {
			t.Fatalf("Nonblocking(%v) = %v, %v, %d, not %v", l, w, is, e, want)
		}
		if is {
			nonblocking++
			continue
		}
		if len(w) > 0 {
			long++
		}
		tuple, done, e := product.Run(l, w)
		s, found := product.Find(tuples, tuple)
		if done != len(w) || !found || e != api.OK {
			t.Errorf("Nonblocking(%v) = %v is not possible", l, w)
		}
		if w, found, e := blocking.Shortest(p, s); found || e != api.OK {
			t.Errorf("from the blocked state of %v leads %v, %d", l, w, e)
		}
	}
	if nonblocking < 500 || long < 50 {
		t.Errorf("%d lists are nonblocking, %d words are not empty", nonblocking, long)
	}
}

// proves reports whether ranks are a proof by the words of the chapter.
func proves(p api.Automaton, ranks ints) bool {
	for s, n := range ranks {
		switch {
		case n < 0:
			return false
		case n == 0:
			if !isMarked(p)(s) {
				return false
			}
		case !slices.ContainsFunc(p.Edges, func(x api.Edge) bool { return x.From == s && ranks[x.To] < n }):
			return false
		}
	}
	return true
}

// P24.2, P24.6: the ranks of the product prove that it is nonblocking, and others that are right do, too.
func TestVerify(t *testing.T) {
	r := rand.New(rand.NewSource(4))
	others := 0
	for _, l := range drawnLists(r) {
		p, _, _ := product.Synchronous(l)
		ranks, _ := blocking.Ranks(p)
		_, is, _ := blocking.Nonblocking(l)
		if e := blocking.Verify(l, ranks); (e == api.OK) != is || e != api.OK && e != api.ErrCertificate {
			t.Errorf("Verify(%v, %v) = %d, but nonblocking is %v", l, ranks, e, is)
		}
		for range 20 {
			changed := slices.Clone(ranks)
			for i := range changed {
				changed[i] = 2*changed[i] + (r.Intn(9)-1)/4
			}
			want := api.ErrCertificate
			if proves(p, changed) {
				want = api.OK
				if !slices.Equal(changed, ranks) {
					others++
				}
			}
			if e := blocking.Verify(l, changed); e != want {
				t.Errorf("Verify(%v, %v) = %d, not %d", l, changed, e, want)
			}
		}
		for _, wrong := range []ints{append(slices.Clone(ranks), 0), make(ints, p.States+7)} {
			if e := blocking.Verify(l, wrong); e != api.ErrSize {
				t.Errorf("Verify(%v, %v) = %d", l, wrong, e)
			}
		}
		if p.States > 0 {
			if e := blocking.Verify(l, ranks[1:]); e != api.ErrSize {
				t.Errorf("Verify(%v, %v) = %d", l, ranks[1:], e)
			}
		}
	}
	if others < 100 {
		t.Errorf("only %d other ranks are right", others)
	}
}

// P24.2: each way in which ranks can be wrong.
func TestWrongRanks(t *testing.T) {
	// The states 0 and 2 are marked; 1 leads to both of them, and to itself.
	l := list{machine(ints{0, 1, 2}, 3, ints{0, 2}, [3]int{0, 0, 1}, [3]int{1, 0, 0}, [3]int{1, 1, 1}, [3]int{1, 2, 2})}
	for i, c := range []struct {
		ranks ints
		e     api.Errno
	}{
		{ints{0, 1, 0}, api.OK},
		{ints{0, 9, 0}, api.OK},
		{ints{2, 1, 0}, api.OK},
		{ints{math.MaxInt, math.MaxInt - 1, 0}, api.OK},
		{ints{1, 1, 0}, api.ErrCertificate},
		{ints{0, 0, 0}, api.ErrCertificate},
		{ints{0, 1, 1}, api.ErrCertificate},
		{ints{2, 3, 0}, api.ErrCertificate},
		{ints{0, 1, -1}, api.ErrCertificate},
		{ints{0, -1, 0}, api.ErrCertificate},
		{ints{math.MinInt, 1, 0}, api.ErrCertificate},
		{nil, api.ErrSize},
		{ints{-1, 0}, api.ErrSize},
		{ints{0, 1, 0, 0}, api.ErrSize},
	} {
		if e := blocking.Verify(l, c.ranks); e != c.e {
			t.Errorf("%d: Verify = %d, not %d", i, e, c.e)
		}
	}
	if e := blocking.Verify(nil, ints{0}); e != api.OK {
		t.Errorf("Verify of no automata: %d", e)
	}
	if e := blocking.Verify(list{{}}, nil); e != api.OK {
		t.Errorf("Verify of the empty automaton: %d", e)
	}
}

// trapsOf returns the traps by the words of the chapter.
func trapsOf(a api.Automaton) (traps []ints, without ints) {
	var words []map[int]ints
	for s := range a.States {
		words = append(words, leastWords(a, s))
	}
	leads := func(s, t int) bool { _, is := words[s][t]; return is }
	for s := range a.States {
		var class ints
		closed, marked := true, false
		for x := range a.States {
			if leads(s, x) && leads(x, s) {
				class = append(class, x)
				marked = marked || isMarked(a)(x)
			}
			closed = closed && (!leads(s, x) || leads(x, s))
		}
		if !closed || class[0] != s {
			continue
		}
		if !marked {
			without = append(without, len(traps))
		}
		traps = append(traps, class)
	}
	return traps, without
}

// P24.4, P24.6: traps; from each blocked state one without a marked state can be reached, and shortest words from other states meet none.
func TestTraps(t *testing.T) {
	for _, a := range drawn(rand.New(rand.NewSource(5))) {
		want, wantWithout := trapsOf(a)
		traps, without, e := blocking.Traps(a)
		if !slices.EqualFunc(traps, want, slices.Equal[ints]) || !slices.Equal(without, wantWithout) || e != api.OK {
			t.Fatalf("Traps(%v) = %v, %v, %d, not %v, %v", a, traps, without, e, want, wantWithout)
		}
		inTrap := func(s int) bool {
			return slices.ContainsFunc(without, func(i int) bool { return slices.Contains(traps[i], s) })
		}
		for s := range a.States {
			w, found, _ := blocking.Shortest(a, s)
			if _, reached := leastTo(a, s, inTrap); !found && !reached {
				t.Errorf("%v: no trap can be reached from %d", a, s)
			}
			for n := range len(w) + 1 {
				if x, _, _ := automaton.Run(a, s, w[:n]); found && inTrap(x) {
					t.Errorf("%v: %v leads from %d into the trap of %d", a, w, s, x)
				}
			}
		}
	}
}

// P24.5: those of a list without which the others are nonblocking together.
func TestCulprits(t *testing.T) {
	counts := map[int]int{}
	for _, l := range drawnLists(rand.New(rand.NewSource(6))) {
		var want ints
		e := api.ErrState
		if p, _ := product.Compose(l...); len(blockedOf(p)) > 0 {
			e = api.OK
			for i := range l {
				others := slices.Concat(l[:i], l[i+1:])
				if p, _ := product.Compose(others...); len(blockedOf(p)) == 0 {
					want = append(want, i)
				}
			}
			counts[len(want)]++
		}
		if culprits, is := blocking.Culprits(l); !slices.Equal(culprits, want) || is != e {
			t.Errorf("Culprits(%v) = %v, %d, not %v, %d", l, culprits, is, want, e)
		}
	}
	if counts[0] < 20 || counts[1] < 20 || counts[2] < 5 {
		t.Errorf("numbers of culprits: %v", counts)
	}
}

func blockedOf(a api.Automaton) ints {
	var blocked ints
	for s := range a.States {
		if isBlocked(a)(s) {
			blocked = append(blocked, s)
		}
	}
	return blocked
}

// P24.5: the others may have too large a product, even if all of them have not.
func TestLimitOfCulprits(t *testing.T) {
	still := machine(ints{0, 1}, 1, nil)
	for _, l := range []list{{ring(65, 0), ring(65, 1), still}, {still, ring(65, 0), ring(65, 1)}, {ring(65, 0), still, ring(65, 1)}} {
		if w, is, e := blocking.Nonblocking(l); len(w) > 0 || is || e != api.OK {
			t.Errorf("Nonblocking = %v, %v, %d", w, is, e)
		}
		if culprits, e := blocking.Culprits(l); len(culprits) > 0 || e != api.ErrLimit {
			t.Errorf("Culprits = %v, %d", culprits, e)
		}
	}
	fitting := list{ring(64, 0), ring(64, 1), still}
	if culprits, e := blocking.Culprits(fitting); !slices.Equal(culprits, ints{2}) || e != api.OK {
		t.Errorf("Culprits = %v, %d", culprits, e)
	}
}

// P24.6: trim automata, and automata all of whose states are marked, are nonblocking.
func TestConsequences(t *testing.T) {
	for _, a := range drawn(rand.New(rand.NewSource(7))) {
		trim, _ := reach.Trim(a)
		closed, _ := automaton.Closed(a)
		for _, b := range []api.Automaton{trim, closed} {
			if w, is, e := blocking.Nonblocking(list{b}); len(w) > 0 || !is || e != api.OK {
				t.Errorf("Nonblocking(%v) = %v, %v, %d", b, w, is, e)
			}
		}
	}
}

// results are what all functions return for a list.
func results(l list) []any {
	var a api.Automaton
	if len(l) > 0 {
		a = l[len(l)-1]
	}
	kinds, e1 := blocking.Kinds(a)
	blocked, e2 := blocking.Blocked(a)
	ranks, e3 := blocking.Ranks(a)
	word, is, e4 := blocking.Nonblocking(l)
	e5 := blocking.Verify(l, nil)
	shortest, found, e6 := blocking.Shortest(a, -1)
	escape, there, e7 := blocking.Escape(a, -1)
	traps, without, e8 := blocking.Traps(a)
	culprits, e9 := blocking.Culprits(l)
	return []any{kinds, e1, blocked, e2, ranks, e3, word, is, e4, e5, shortest, found, e6, escape, there, e7, traps, without, e8, culprits, e9}
}

func zeros(e api.Errno) []any {
	none := ints(nil)
	return []any{none, e, none, e, none, e, none, false, e, e, none, false, e, none, false, e, []ints(nil), none, e, none, e}
}

// P1, P24.1 to P24.5: the error of an automaton or of a list comes first.
func TestErrors(t *testing.T) {
	for i, c := range []struct {
		a api.Automaton
		e api.Errno
	}{
		{machine(ints{32}, -1, nil), api.ErrRange},
		{machine(ints{1, 1}, math.MaxInt, nil), api.ErrOrder},
		{machine(nil, -1, ints{0}), api.ErrRange},
		{machine(nil, math.MinInt, nil), api.ErrRange},
		{machine(nil, 4097, ints{-1}), api.ErrLimit},
		{machine(nil, math.MaxInt, nil), api.ErrLimit},
		{machine(nil, 2, ints{2}), api.ErrRange},
		{machine(nil, 2, ints{1, 0}), api.ErrOrder},
		{machine(nil, 2, nil, [3]int{0, 0, 2}), api.ErrRange},
		{machine(nil, 2, nil, [3]int{0, 0, 1}), api.ErrUnknown},
		{machine(ints{0}, 2, nil, [3]int{0, 0, 1}, [3]int{0, 0, 0}), api.ErrOrder},
	} {
		for _, l := range []list{{c.a}, {example(), c.a}} {
			if got := results(l); !reflect.DeepEqual(got, zeros(c.e)) {
				t.Errorf("%d: %v, not %d", i, got, c.e)
			}
		}
	}
}

// P1, P24.2, P24.5: lists that are too long, and products that are too large.
func TestLimits(t *testing.T) {
	many := make(list, 13)
	many[0].States = -1
	for i, l := range []list{many, {ring(65, 0), ring(65, 1)}} {
		if w, is, e := blocking.Nonblocking(l); len(w) > 0 || is || e != api.ErrLimit {
			t.Errorf("%d: Nonblocking = %v, %v, %d", i, w, is, e)
		}
		if e := blocking.Verify(l, nil); e != api.ErrLimit {
			t.Errorf("%d: Verify = %d", i, e)
		}
		if culprits, e := blocking.Culprits(l); len(culprits) > 0 || e != api.ErrLimit {
			t.Errorf("%d: Culprits = %v, %d", i, culprits, e)
		}
	}
	long := ring(4096, 7)
	ranks, e := blocking.Ranks(long)
	if e != api.OK || ranks[1] != 4095 || ranks[4095] != 1 {
		t.Errorf("Ranks of a long ring: %d", e)
	}
	if e := blocking.Verify(list{long}, ranks); e != api.OK {
		t.Errorf("Verify of a long ring: %d", e)
	}
	long.Marked = nil
	if kinds, e := blocking.Kinds(long); !slices.Equal(kinds, slices.Repeat(ints{blocking.Livelock}, 4096)) || e != api.OK {
		t.Errorf("Kinds of a long ring: %d", e)
	}
	long.Edges = long.Edges[:4095]
	if kinds, e := blocking.Kinds(long); !slices.Equal(kinds, append(slices.Repeat(ints{blocking.Doomed}, 4095), blocking.Deadlock)) || e != api.OK {
		t.Errorf("Kinds of a long chain: %d", e)
	}
	if w, found, e := blocking.Escape(long, blocking.Deadlock); !slices.Equal(w, slices.Repeat(ints{7}, 4095)) || !found || e != api.OK {
		t.Errorf("Escape in a long chain: %d events, %d", len(w), e)
	}
}

// P1: arguments stay as they are, and results share no memory with them.
func TestMemory(t *testing.T) {
	for _, l := range []list{{example()}, waiting(1), waiting(0)} {
		text := fmt.Sprint(l)
		ranks := ints{0}
		blocking.Verify(l, ranks)
		for range 2 {
			for _, x := range results(l) {
				switch x := x.(type) {
				case ints:
					scribble(x)
				case []ints:
					for _, y := range x {
						scribble(y)
					}
				}
			}
			w, _, _ := blocking.Shortest(l[0], 0)
			scribble(w)
		}
		if fmt.Sprint(l) != text || ranks[0] != 0 {
			t.Errorf("%s became %v, %v", text, l, ranks)
		}
	}
	traps, _, _ := blocking.Traps(example())
	_ = append(traps[0], 99)
	if !slices.Equal(traps[1], ints{2, 3}) {
		t.Errorf("traps share memory: %v", traps)
	}
}

func scribble(l ints) {
	for i := range l {
		l[i] = -9
	}
}

package flatten_test

import (
	"fmt"
	"math"
	"math/rand"
	"reflect"
	"slices"
	"testing"

	canonical "overseer/automaton"

	"overseer/api"
	"overseer/expression"
	"overseer/extended"
	"overseer/flatten"
	"overseer/product"
)

// pair is a joint list of two automata with everything that one can have.
func pair() []machine {
	variables := []variable{{Name: "n", Low: -1, High: 3, Initial: 1}, {Name: "k", High: 2}}
	return []machine{
		{Alphabet: ints{0, 2}, Locations: 2, Initial: 1, Marked: ints{0}, Variables: slices.Clone(variables), Moves: []move{
			{From: 0, Event: 0, To: 1, Guard: expression.True(), Updates: []update{set(0, more()), set(1, num(1))}},
			{From: 1, Event: 2, To: 0, Guard: op(api.OpLt, n(), num(3)), Updates: []update{set(0, more())}},
		}},
		{Alphabet: ints{2, 5}, Locations: 3, Initial: 2, Marked: ints{0, 2}, Variables: slices.Clone(variables), Moves: []move{
			{From: 0, Event: 5, To: 2, Guard: op(api.OpEq, k(), num(2))},
			{From: 2, Event: 2, To: 0, Guard: expression.True(), Updates: []update{set(1, num(2))}},
		}},
	}
}

// breakage breaks a joint list in a way that has an error.
type breakage struct {
	e      api.Errno
	damage func(l []machine) []machine
}

// breakages are in the order of the errors of CheckJoint.
func breakages() []breakage {
	in := func(i int, damage func(m *machine)) func(l []machine) []machine {
		return func(l []machine) []machine {
			damage(&l[i])
			return l
		}
	}
	return []breakage{
		{api.ErrLimit, func(l []machine) []machine { return append(l, make([]machine, 11)...) }},
		{api.ErrOrder, in(0, func(m *machine) { m.Alphabet = ints{0, 2, 2} })},
		{api.ErrName, in(0, func(m *machine) { m.Variables[0].Name = "" })},
		{api.ErrUnknown, in(0, func(m *machine) { m.Moves[0].Event = 5 })},
		{api.ErrType, in(0, func(m *machine) { m.Moves[1].Guard = n() })},
		{api.ErrRange, in(1, func(m *machine) { m.Locations = 65 })},
		{api.ErrDuplicate, in(1, func(m *machine) { m.Variables[1].Name = "n" })},
		{api.ErrLimit, in(1, func(m *machine) { m.Moves = append(m.Moves, make([]move, 255)...) })},
		{api.ErrConflict, in(1, func(m *machine) { m.Variables[1].Initial = 1 })},
	}
}

// P19.2, P19.3 and P1: each error of a joint list, and of two errors the first one. All functions with a list return it.
func TestErrorsOfCheckJoint(t *testing.T) {
	if e := flatten.CheckJoint(pair()); e != api.OK {
		t.Fatalf("CheckJoint: %d", e)
	}
	l := breakages()
	for i, first := range l {
		for k := i; k < len(l); k++ {
			list := pair()
			if k > i {
				list = l[k].damage(list)
			}
			list = first.damage(list)
			if e := flatten.CheckJoint(list); e != first.e {
				t.Errorf("%d and %d: CheckJoint = %d, not %d", i, k, e, first.e)
			}
			if e := flatten.CheckOrigin(list, origin{}); e != first.e {
				t.Errorf("%d and %d: CheckOrigin = %d, not %d", i, k, e, first.e)
			}
			if s := takeStep(list, origin{}, 99); !reflect.DeepEqual(s, step{e: first.e}) {
				t.Errorf("%d and %d: Step = %v, not %d", i, k, s, first.e)
			}
			if u := unfold(list...); !reflect.DeepEqual(u, unfolded{e: first.e}) {
				t.Errorf("%d and %d: Joint = %v, not %d", i, k, u, first.e)
			}
		}
	}
	for _, list := range [][]machine{nil, {}} {
		if u := unfold(list...); flatten.CheckJoint(list) != api.ErrEmpty || !reflect.DeepEqual(u, unfolded{e: api.ErrEmpty}) {
			t.Errorf("Joint = %v", u)
		}
		if s := takeStep(list, origin{}, 99); flatten.CheckOrigin(list, origin{}) != api.ErrEmpty || !reflect.DeepEqual(s, step{e: api.ErrEmpty}) {
			t.Errorf("Step = %v", s)
		}
	}
}

// P19.1, P19.5: the errors of one extended automaton.
func TestErrorsOfCheck(t *testing.T) {
	for i, damage := range []func(m *machine){
		func(m *machine) { m.Alphabet = ints{32} },
		func(m *machine) { m.Locations = 0 },
		func(m *machine) { m.Marked = ints{1} },
		func(m *machine) { m.Variables[0].Low = 3 },
		func(m *machine) { m.Moves[1].To = 1 },
		func(m *machine) { m.Moves[1].Updates[0].Value = expression.True() },
	} {
		m := counter(expression.True())
		damage(&m)
		e := extended.Check(m)
		if u := unfoldOne(m); e == api.OK || !reflect.DeepEqual(u, unfolded{e: e}) {
			t.Errorf("%d: Unfold = %v, not %d", i, u, e)
		}
		if l, got := flatten.Where(m, []state{{Location: 9}}, n()); l != nil || got != e {
			t.Errorf("%d: Where = %v, %d, not %d", i, l, got, e)
		}
	}
}

// P19.2: what a joint list is.
func TestCheckJoint(t *testing.T) {
	bare := machine{Locations: 1}
	with := func(l ...variable) machine { return machine{Locations: 1, Variables: l} }
	v := variable{Name: "n", High: 3}
	for i, c := range []struct {
		l []machine
		e api.Errno
	}{
		{[]machine{bare}, api.OK},
		{slices.Repeat([]machine{bare}, 12), api.OK},
		{slices.Repeat([]machine{bare}, 13), api.ErrLimit},
		{make([]machine, 13), api.ErrLimit},
		{make([]machine, 12), api.ErrRange},
		{[]machine{with(v), with(v), with(v)}, api.OK},
		{[]machine{with(v), with(v), bare}, api.ErrConflict},
		{[]machine{bare, with(v)}, api.ErrConflict},
		{[]machine{with(v), with(variable{Name: "k", High: 3})}, api.ErrConflict},
		{[]machine{with(v), with(variable{Name: "n", High: 4})}, api.ErrConflict},
		{[]machine{with(v), with(variable{Name: "n", Low: -1, High: 3})}, api.ErrConflict},
		{[]machine{with(v), with(variable{Name: "n", High: 3, Initial: 1})}, api.ErrConflict},
		{[]machine{with(v), bare, {}}, api.ErrRange},
		{[]machine{with(v, variable{Name: "k"}), with(variable{Name: "k"}, v)}, api.ErrConflict},
	} {
		if e := flatten.CheckJoint(c.l); e != c.e {
			t.Errorf("%d: CheckJoint = %d, not %d", i, e, c.e)
		}
	}
}

// P19.2: origins, and their errors of all functions with an origin.
func TestCheckOrigin(t *testing.T) {
	for i, c := range []struct {
		at origin
		e  api.Errno
	}{
		{origin{ints{0, 0}, ints{-1, 0}}, api.OK},
		{origin{ints{1, 2}, ints{3, 2}}, api.OK},
		{origin{}, api.ErrSize},
		{origin{ints{9}, ints{0, 0}}, api.ErrSize},
		{origin{ints{0, 0, 0}, ints{0, 0}}, api.ErrSize},
		{origin{ints{0, 9}, ints{9}}, api.ErrSize},
		{origin{ints{0, 0}, ints{0, 0, 0}}, api.ErrSize},
		{origin{ints{2, 0}, ints{0, 0}}, api.ErrRange},
		{origin{ints{0, 3}, ints{0, 0}}, api.ErrRange},
		{origin{ints{-1, 0}, ints{0, 0}}, api.ErrRange},
		{origin{ints{0, math.MaxInt}, ints{0, 0}}, api.ErrRange},
		{origin{ints{0, 0}, ints{-2, 0}}, api.ErrRange},
		{origin{ints{0, 0}, ints{4, 0}}, api.ErrRange},
		{origin{ints{0, 0}, ints{0, 3}}, api.ErrRange},
	} {
		if e := flatten.CheckOrigin(pair(), c.at); e != c.e {
			t.Errorf("%d: CheckOrigin = %d, not %d", i, e, c.e)
		}
		if s := takeStep(pair(), c.at, 99); c.e != api.OK && !reflect.DeepEqual(s, step{e: c.e}) {
			t.Errorf("%d: Step = %v, not %d", i, s, c.e)
		}
	}
	for i, c := range []struct {
		a, b origin
		want bool
	}{
		{origin{}, origin{ints{}, ints{}}, true},
		{origin{ints{1, 2}, ints{3}}, origin{ints{1, 2}, ints{3}}, true},
		{origin{ints{1, 2}, ints{3}}, origin{ints{2, 1}, ints{3}}, false},
		{origin{ints{1, 2}, ints{3}}, origin{ints{1, 2}, ints{4}}, false},
		{origin{ints{1, 2}, ints{3}}, origin{ints{1}, ints{2, 3}}, false},
		{origin{ints{1, 2}, ints{3}}, origin{ints{1, 2}, nil}, false},
	} {
		if flatten.EqualOrigins(c.a, c.b) != c.want || flatten.EqualOrigins(c.b, c.a) != c.want {
			t.Errorf("%d: EqualOrigins = %v", i, !c.want)
		}
	}
}

// P19.3: the chapter's second example.
func TestTwo(t *testing.T) {
	variables := []variable{{Name: "n", High: 3}}
	yes := expression.True()
	first := single(variables, yes, set(0, more()))
	want := unfolded{
		a:       automaton{Alphabet: ints{0}, States: 2, Marked: ints{0, 1}, Edges: edges([3]int{0, 0, 1})},
		origins: []origin{{ints{0, 0}, ints{0}}, {ints{0, 0}, ints{1}}},
	}
	if u := unfold(first, single(variables, op(api.OpLt, n(), num(1)))); !u.equal(want) {
		t.Errorf("Joint = %v", u)
	}
	if u := unfold(first, single(variables, yes, set(0, op(api.OpSub, num(3), n())))); !u.equal(unfolded{e: api.ErrConflict}) {
		t.Errorf("Joint = %v", u)
	}
}

// P19.3: which error a step has, and what its updates see.
func TestStep(t *testing.T) {
	yes, no := expression.True(), expression.False()
	variables := []variable{{Name: "n", High: 9, Initial: 4}, {Name: "k", Low: -9, High: 9, Initial: 1}}
	with := func(moves ...move) machine {
		m := machine{Alphabet: ints{1}, Locations: 3, Variables: variables, Moves: moves}
		for i := range moves {
			m.Moves[i].Event = 1
		}
		return m
	}
	one := func(guard expr, updates ...update) machine { return with(move{To: 1, Guard: guard, Updates: updates}) }
	twice := with(move{Guard: yes}, move{Guard: yes})
	other := machine{Alphabet: ints{3}, Locations: 1, Variables: variables, Moves: []move{{Event: 3, Guard: tooMuch()}}}
	for i, c := range []struct {
		l    []machine
		want step
	}{
		{[]machine{one(yes), one(yes)}, step{origin{ints{1, 1}, ints{4, 1}}, true, api.OK}},
		{[]machine{one(yes), other, one(yes)}, step{origin{ints{1, 0, 1}, ints{4, 1}}, true, api.OK}},
		{[]machine{one(yes), one(no)}, step{}},
		{[]machine{one(no), one(yes, set(0, num(99)))}, step{}},
		{[]machine{with(), one(yes)}, step{}},
		{[]machine{one(yes), with(move{From: 1, Guard: yes})}, step{}},
		{[]machine{one(no), twice}, step{e: api.ErrChoice}},
		{[]machine{twice, one(no)}, step{e: api.ErrChoice}},
		{[]machine{one(no), one(tooMuch())}, step{e: api.ErrOverflow}},
		{[]machine{with(), one(no), one(tooMuch())}, step{e: api.ErrOverflow}},
		{[]machine{twice, one(tooMuch())}, step{e: api.ErrChoice}},
		{[]machine{one(tooMuch()), twice}, step{e: api.ErrOverflow}},
		{[]machine{with(move{Guard: yes}, move{Guard: yes}, move{Guard: tooMuch()}), twice}, step{e: api.ErrOverflow}},
		{[]machine{one(yes, set(0, num(10))), twice}, step{e: api.ErrChoice}},
		{[]machine{one(yes, set(0, num(5)), set(1, n())), one(yes, set(0, num(5)))}, step{origin{ints{1, 1}, ints{5, 4}}, true, api.OK}},
		{[]machine{one(yes, set(0, num(5))), one(yes, set(1, n()))}, step{origin{ints{1, 1}, ints{5, 4}}, true, api.OK}},
		{[]machine{one(yes, set(0, num(5))), one(yes, set(0, num(6)))}, step{e: api.ErrConflict}},
		{[]machine{one(yes, set(0, num(5))), one(yes, set(0, num(4)))}, step{e: api.ErrConflict}},
		{[]machine{one(yes, set(0, num(4))), one(yes, set(0, num(5)))}, step{e: api.ErrConflict}},
		{[]machine{one(yes, set(0, num(5))), one(yes), one(yes, set(0, num(5)), set(1, num(0))), one(yes, set(1, num(1)))}, step{e: api.ErrConflict}},
		{[]machine{one(yes, set(0, num(5))), one(yes, set(0, num(10)))}, step{e: api.ErrOverflow}},
		{[]machine{one(yes, set(0, num(5))), one(yes, set(0, num(-1)))}, step{e: api.ErrOverflow}},
		{[]machine{one(yes, set(0, num(5))), one(yes, set(0, num(6)), set(1, num(10)))}, step{e: api.ErrConflict}},
		{[]machine{one(yes, set(0, num(5)), set(1, num(-10))), one(yes, set(0, num(6)))}, step{e: api.ErrOverflow}},
		{[]machine{one(yes, set(0, op(api.OpIte, tooMuch(), n(), n()))), twice}, step{e: api.ErrChoice}},
		{[]machine{one(yes), one(yes, set(0, op(api.OpIte, tooMuch(), n(), n())))}, step{e: api.ErrOverflow}},
	} {
		at := startOf(c.l)
		if got := takeStep(c.l, at, 1); !got.equal(c.want) || !got.possible && !reflect.DeepEqual(got.next, origin{}) {
			t.Errorf("%d: Step = %v, not %v", i, got, c.want)
		}
		if u := unfold(c.l...); c.want.e != api.OK && !reflect.DeepEqual(u, unfolded{e: c.want.e}) {
			t.Errorf("%d: Joint = %v", i, u)
		}
	}
	l := []machine{one(tooMuch()), other}
	for _, event := range []int{-1, 0, 2, 4, 32, math.MaxInt} {
		if got := takeStep(l, startOf(l), event); !reflect.DeepEqual(got, step{e: api.ErrUnknown}) {
			t.Errorf("Step by %d = %v", event, got)
		}
	}
}

// P19.3: steps, and unfolded joint lists.
func TestRandomJoint(t *testing.T) {
	r := rand.New(rand.NewSource(3))
	errors, steps, large := map[api.Errno]int{}, map[api.Errno]int{}, 0
	for range 6000 {
		l := drawJoint(r)
		before := fmt.Sprint(l)
		u := unfold(l...)
		if want := unfoldedOf(l); !u.equal(want) {
			t.Fatalf("Joint(%v) = %v, not %v", l, u, want)
		}
		errors[u.e]++
		if u.a.States > 12 {
			large++
		}
		for range 4 {
			at := startOf(l)
			for i, m := range l {
				at.Locations[i] = r.Intn(m.Locations)
			}
			for i, v := range l[0].Variables {
				at.Values[i] = v.Low + r.Intn(v.High-v.Low+1)
			}
			for _, event := range alphabetOf(l) {
				got, want := takeStep(l, at, event), stepOf(l, at, event)
				if !got.equal(want) {
					t.Fatalf("Step(%v, %v, %d) = %v, not %v", l, at, event, got, want)
				}
				if got.possible && flatten.CheckOrigin(l, got.next) != api.OK {
					t.Fatalf("Step(%v, %v, %d) = %v", l, at, event, got)
				}
				steps[got.e]++
			}
		}
		if fmt.Sprint(l) != before {
			t.Fatalf("%s was changed to %v", before, l)
		}
	}
	if errors[api.OK] < 1000 || errors[api.ErrChoice] < 300 || errors[api.ErrOverflow] < 300 || errors[api.ErrConflict] < 30 || large < 40 || steps[api.ErrConflict] < 100 {
		t.Errorf("%v, %v, %d", errors, steps, large)
	}
}

// P19.1, P19.3: results share no memory with arguments, nor with each other.
func TestMemory(t *testing.T) {
	l := pair()
	before := fmt.Sprint(l)
	u := unfold(l...)
	at := startOf(l)
	s := takeStep(l, at, 2)
	a, states, _ := flatten.Unfold(l[0])
	if u.e != api.OK || !s.possible || len(states) < 2 {
		t.Fatalf("%v, %v, %v", u, s, states)
	}
	clear(u.a.Alphabet)
	clear(a.Alphabet)
	clear(s.next.Locations)
	clear(s.next.Values)
	for i := range u.origins {
		kept := fmt.Sprint(u.origins[i+1:])
		u.origins[i].Locations[0]++
		u.origins[i].Values[0]++
		if fmt.Sprint(u.origins[i+1:]) != kept {
			t.Errorf("origins share memory")
		}
	}
	for i := range states {
		kept := fmt.Sprint(states[i+1:])
		states[i].Values[0]++
		if fmt.Sprint(states[i+1:]) != kept {
			t.Errorf("states share memory")
		}
	}
	if fmt.Sprint(l) != before || !flatten.EqualOrigins(at, startOf(l)) {
		t.Errorf("%v, %v", l, at)
	}
}

// P19.6: one extended automaton is unfolded alone as in a list.
func TestJointOfOne(t *testing.T) {
	r := rand.New(rand.NewSource(4))
	for range 1000 {
		m := drawMachine(r, drawVariables(r), r.Intn(9))
		if alone, list := unfoldOne(m), unfold(m); !alone.equal(list) {
			t.Fatalf("Unfold(%v) = %v, and in a list %v", m, alone, list)
		}
	}
}

func drawAutomaton(r *rand.Rand) automaton {
	a := automaton{States: 1 + r.Intn(5)}
	for event := range 5 {
		if r.Intn(2) == 0 {
			a.Alphabet = append(a.Alphabet, event)
		}
	}
	for s := range a.States {
		if r.Intn(3) > 0 {
			a.Marked = append(a.Marked, s)
		}
		for _, event := range a.Alphabet {
			if r.Intn(2) == 0 {
				a.Edges = append(a.Edges, edge{From: s, Event: event, To: r.Intn(a.States)})
			}
		}
	}
	return a
}

// P19.4, P19.6: From of an automaton is unfolded to its canonical form, and several ones to their synchronous product.
func TestAutomata(t *testing.T) {
	r := rand.New(rand.NewSource(5))
	for range 1500 {
		var l []automaton
		var machines []machine
		for range 1 + r.Intn(3) {
			a := drawAutomaton(r)
			m, e := flatten.From(a)
			if e != api.OK || extended.Check(m) != api.OK {
				t.Fatalf("From(%v) = %v, %d", a, m, e)
			}
			l, machines = append(l, a), append(machines, m)
		}
		form, _ := canonical.Canonical(l[0])
		if u := unfoldOne(machines[0]); u.e != api.OK || !equalAutomata(u.a, form) {
			t.Fatalf("Unfold of %v = %v, not %v", l[0], u, form)
		}
		whole, tuples, _ := product.Synchronous(l)
		u := unfold(machines...)
		if u.e != api.OK || !equalAutomata(u.a, whole) {
			t.Fatalf("Joint of %v = %v, not %v", l, u, whole)
		}
		for i, o := range u.origins {
			if !slices.Equal(o.Locations, tuples[i]) || len(o.Values) != 0 {
				t.Fatalf("Joint of %v: %v, not %v", l, u.origins, tuples)
			}
		}
	}
}

package extended_test

import (
	"math/rand"
	"reflect"
	"slices"
	"testing"

	"overseer/api"
	"overseer/expression"
	"overseer/extended"
)

type (
	ints    = []int
	expr    = api.Expr
	machine = api.Extended
	move    = api.Move
	update  = api.Update
	state   = extended.State
)

func num(value int) expr {
	return expr{Op: api.OpConst, Value: value}
}

func vari(index int) expr {
	return expr{Op: api.OpVar, Index: index}
}

func op(op int, args ...expr) expr {
	return expr{Op: op, Args: args}
}

func less(a, b expr) expr {
	return op(api.OpLt, a, b)
}

func plus(a, b expr) expr {
	return op(api.OpAdd, a, b)
}

// over is an expression that overflows if a variable has a value of at least 2.
func over(index int) expr {
	large := op(api.OpMul, num(1<<15), num(1<<14))
	return op(api.OpLe, num(0), plus(op(api.OpMul, vari(index), large), num(1)))
}

// counter is the chapter's first example, with a guard for the event 0.
func counter(guard expr) machine {
	return machine{
		Alphabet:  ints{0, 1},
		Locations: 1,
		Marked:    ints{0},
		Variables: []api.Variable{{Name: "n", High: 2}},
		Moves: []move{
			{Event: 0, Guard: guard, Updates: []update{{Value: plus(vari(0), num(1))}}},
			{Event: 1, Guard: op(api.OpEq, vari(0), num(2)), Updates: []update{{Value: num(0)}}},
		},
	}
}

// ring is an automaton with a state for each number up to most, in a ring, of which the event 3 leads to the next one; in the first one, the event 5 has an error.
func ring(most int) machine {
	n := vari(0)
	return machine{
		Alphabet:  ints{3, 5},
		Locations: 1,
		Variables: []api.Variable{{Name: "n", High: most}},
		Moves: []move{
			{Event: 3, Guard: expression.True(), Updates: []update{{Value: op(api.OpIte, less(n, num(most)), plus(n, num(1)), num(0))}}},
			{Event: 5, Guard: op(api.OpEq, n, num(0)), Updates: []update{{Value: num(-1)}}},
		},
	}
}

// whole is an automaton with everything that one can have.
func whole() machine {
	return machine{
		Alphabet:  ints{2, 4, 31},
		Locations: 3,
		Initial:   1,
		Marked:    ints{0, 2},
		Variables: []api.Variable{{Name: "a", Low: -2, High: 3, Initial: 1}, {Name: "b", High: 1}, {Name: "c", Low: 5, High: 5, Initial: 5}},
		Moves: []move{
			{From: 0, Event: 2, To: 1, Guard: less(vari(0), num(2)), Updates: []update{{Variable: 0, Value: plus(vari(0), num(1))}, {Variable: 2, Value: num(5)}}},
			{From: 0, Event: 4, To: 2, Guard: expression.True(), Updates: []update{{Variable: 1, Value: vari(1)}}},
			{From: 0, Event: 4, To: 2, Guard: expression.False()},
			{From: 1, Event: 2, To: 0, Guard: expression.True(), Updates: []update{{Variable: 0, Value: num(0)}, {Variable: 1, Value: num(1)}}},
			{From: 2, Event: 31, To: 2, Guard: op(api.OpEq, vari(1), num(1))},
		},
	}
}

// drawGuard draws a guard; one of more than one comparison has two of them, or three.
func drawGuard(r *rand.Rand, n int) expr {
	first := drawComparison(r, n)
	for range max(0, r.Intn(5)-2) {
		first = op([]int{api.OpAnd, api.OpOr}[r.Intn(2)], first, drawComparison(r, n))
	}
	return first
}

func drawComparison(r *rand.Rand, n int) expr {
	operand := func() expr {
		if n == 0 || r.Intn(3) == 0 {
			return num(r.Intn(4) - 1)
		}
		return vari(r.Intn(n))
	}
	switch r.Intn(8) {
	case 0, 1:
		return expression.True()
	case 2:
		return expression.False()
	case 3:
		if n > 0 {
			return over(r.Intn(n))
		}
	}
	return op(api.OpEq+r.Intn(4), operand(), operand())
}

func drawValue(r *rand.Rand, n int) expr {
	x := vari(r.Intn(n))
	return []expr{num(r.Intn(4) - 1), x, plus(x, num(1)), op(api.OpSub, x, num(1)), op(api.OpSub, num(2), x), plus(x, vari(r.Intn(n))), op(api.OpIte, over(r.Intn(n)), x, num(0))}[r.Intn(7)]
}

// drawMachine draws a valid automaton with few states.
func drawMachine(r *rand.Rand) machine {
	m := machine{Locations: 1 + r.Intn(4)}
	m.Initial = r.Intn(m.Locations)
	for event := range 6 {
		if r.Intn(2) == 0 {
			m.Alphabet = append(m.Alphabet, event)
		}
	}
	for i := range m.Locations {
		if r.Intn(2) == 0 {
			m.Marked = append(m.Marked, i)
		}
	}
	for i := range r.Intn(4) {
		v := api.Variable{Name: string("xyz"[i]), Low: r.Intn(3) - 1}
		v.High = v.Low + r.Intn(4)
		v.Initial = v.Low + r.Intn(v.High-v.Low+1)
		m.Variables = append(m.Variables, v)
	}
	for range r.Intn(14) {
		if len(m.Alphabet) == 0 {
			break
		}
		x := move{From: r.Intn(m.Locations), Event: m.Alphabet[r.Intn(len(m.Alphabet))], To: r.Intn(m.Locations), Guard: drawGuard(r, len(m.Variables))}
		for i := range m.Variables {
			if r.Intn(3) == 0 {
				x.Updates = append(x.Updates, update{Variable: i, Value: drawValue(r, len(m.Variables))})
			}
		}
		m.Moves = append(m.Moves, x)
	}
	slices.SortStableFunc(m.Moves, func(x, y move) int { return 100*(x.From-y.From) + x.Event - y.Event })
	return m
}

// allStates are all states of an automaton.
func allStates(t *testing.T, m machine) []state {
	t.Helper()
	all, e := expression.All(m.Variables)
	if e != api.OK {
		t.Fatalf("All: %d", e)
	}
	var l []state
	for location := range m.Locations {
		for _, values := range all {
			l = append(l, state{Location: location, Values: values})
		}
	}
	return l
}

// step is what Step returns.
type step struct {
	next     state
	possible bool
	e        api.Errno
}

// stepOf is what Step must return for a state and an event of the alphabet, by the words of the chapter.
func stepOf(m machine, s state, event int) step {
	var open []move
	for _, x := range m.Moves {
		if x.From != s.Location || x.Event != event {
			continue
		}
		value, e := expression.Evaluate(x.Guard, s.Values)
		if e != api.OK {
			return step{e: api.ErrOverflow}
		}
		if value == 1 {
			open = append(open, x)
		}
	}
	if len(open) == 0 {
		return step{}
	}
	if len(open) > 1 {
		return step{e: api.ErrChoice}
	}
	next := state{Location: open[0].To, Values: append(ints{}, s.Values...)}
	for _, u := range open[0].Updates {
		value, e := expression.Evaluate(u.Value, s.Values)
		v := m.Variables[u.Variable]
		if e != api.OK || value < v.Low || value > v.High {
			return step{e: api.ErrOverflow}
		}
		next.Values[u.Variable] = value
	}
	return step{next, true, api.OK}
}

func takeStep(m machine, s state, event int) step {
	next, possible, e := extended.Step(m, s, event)
	return step{next, possible, e}
}

func (s step) equal(other step) bool {
	return extended.EqualStates(s.next, other.next) && s.possible == other.possible && s.e == other.e
}

// results are the results of all functions but Check and EqualStates.
func results(m machine, s state, event, i, k int) []any {
	var l []any
	add := func(x ...any) { l = append(l, x) }
	start, e := extended.Start(m)
	add(start, e)
	is, e := extended.Marked(m, s)
	add(is, e)
	next, possible, e := extended.Step(m, s, event)
	add(next, possible, e)
	enabled, e := extended.Enabled(m, s)
	add(enabled, e)
	end, done, e := extended.Run(m, ints{event, event})
	add(end, done, e)
	states, e := extended.Reach(m)
	add(states, e)
	run, found, kind, e := extended.Fault(m)
	add(run, found, kind, e)
	values, found, e := extended.Overlap(m, i, k)
	add(values, found, e)
	unused, e := extended.Unused(m)
	add(unused, e)
	return l
}

// zeros are those results if all of them have an error.
func zeros(e api.Errno) []any {
	of := func(x ...any) any { return append(x, e) }
	return []any{of(state{}), of(false), of(state{}, false), of(ints(nil)), of(state{}, 0), of([]state(nil)), of(ints(nil), false, api.OK), of(ints(nil), false), of(ints(nil))}
}

// Arguments stay as they are, and results share no memory with them or with one another.
func TestArgumentsStay(t *testing.T) {
	r := rand.New(rand.NewSource(9))
	for _, m := range []machine{whole(), counter(expression.True()), ring(5), drawMachine(r), drawMachine(r)} {
		s, e := extended.Start(m)
		if e != api.OK {
			t.Fatalf("Start: %d", e)
		}
		event := 2
		if len(m.Alphabet) > 0 {
			event = m.Alphabet[0]
		}
		before := results(m, s, event, 0, 1)
		for _, result := range before {
			for _, x := range result.([]any) {
				spoil(x)
			}
		}
		l, _ := extended.Reach(m)
		for _, x := range l {
			spoil(x)
			spoil(state{Values: append(x.Values, -77)})
		}
		again, e := extended.Start(m)
		if e != api.OK || !extended.EqualStates(again, s) || !reflect.DeepEqual(results(m, again, event, 0, 1), results(m, s, event, 0, 1)) {
			t.Errorf("%v changes", m)
		}
	}
	if !reflect.DeepEqual(func() machine {
		m := whole()
		extended.Check(m)
		results(m, state{0, ints{0, 0, 5}}, 2, 1, 2)
		return m
	}(), whole()) {
		t.Error("an automaton changes")
	}
}

// spoil changes what a result has.
func spoil(x any) {
	switch x := x.(type) {
	case ints:
		for i := range x {
			x[i] = -99
		}
	case state:
		spoil(x.Values)
	case []state:
		for _, s := range x {
			spoil(s)
		}
	}
}

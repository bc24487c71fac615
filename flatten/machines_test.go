package flatten_test

import (
	"cmp"
	"math/rand"
	"slices"

	"overseer/api"
	"overseer/expression"
	"overseer/extended"
	"overseer/flatten"
)

type (
	ints      = []int
	automaton = api.Automaton
	edge      = api.Edge
	expr      = api.Expr
	machine   = api.Extended
	move      = api.Move
	update    = api.Update
	variable  = api.Variable
	state     = extended.State
	origin    = flatten.Origin
)

func num(value int) expr {
	return expr{Value: value}
}

func op(op int, args ...expr) expr {
	return expr{Op: op, Args: args}
}

// n and k are the first two variables.
func n() expr {
	return expr{Op: api.OpVar}
}

func k() expr {
	return expr{Op: api.OpVar, Index: 1}
}

func more() expr {
	return op(api.OpAdd, n(), num(1))
}

// tooMuch is a guard that overflows unless the variable k is 0.
func tooMuch() expr {
	large := op(api.OpMul, num(1<<16), num(1<<14))
	return op(api.OpLe, num(0), op(api.OpAdd, op(api.OpMul, k(), large), k()))
}

// set is an update of a variable.
func set(index int, value expr) update {
	return update{Variable: index, Value: value}
}

func at(location int, values ...int) state {
	return state{Location: location, Values: values}
}

// edges are from a state, by an event, to a state.
func edges(l ...[3]int) []edge {
	var all []edge
	for _, x := range l {
		all = append(all, edge{From: x[0], Event: x[1], To: x[2]})
	}
	return all
}

// counter is the counter of layer 18, with a guard for the event 0.
func counter(guard expr) machine {
	return machine{Alphabet: ints{0, 1}, Locations: 1, Marked: ints{0}, Variables: []variable{{Name: "n", High: 2}}, Moves: []move{
		{Event: 0, Guard: guard, Updates: []update{set(0, more())}},
		{Event: 1, Guard: op(api.OpEq, n(), num(2)), Updates: []update{set(0, num(0))}},
	}}
}

// single is an automaton with one location, marked, and one move by the event 0.
func single(variables []variable, guard expr, updates ...update) machine {
	return machine{Alphabet: ints{0}, Locations: 1, Marked: ints{0}, Variables: variables, Moves: []move{{Guard: guard, Updates: updates}}}
}

// ring has a state for each number up to most, in a ring, with the event 3; another event has an error at one of them.
func ring(most, event, at int) machine {
	wrap := op(api.OpIte, op(api.OpLt, n(), num(most)), more(), num(0))
	m := machine{Alphabet: ints{3}, Locations: 1, Variables: []variable{{Name: "n", High: most}}, Moves: []move{
		{Event: 3, Guard: expression.True(), Updates: []update{set(0, wrap)}},
		{Event: event, Guard: op(api.OpEq, n(), num(at)), Updates: []update{set(0, num(-1))}},
	}}
	m.Alphabet = append(m.Alphabet, event)
	slices.Sort(m.Alphabet)
	slices.SortFunc(m.Moves, func(x, y move) int { return x.Event - y.Event })
	return m
}

func drawVariables(r *rand.Rand) []variable {
	l := []variable{{Name: "n"}, {Name: "k"}, {Name: "i"}}[:r.Intn(4)]
	for i := range l {
		l[i].Low = -r.Intn(2)
		l[i].High = l[i].Low + 1 + r.Intn(3)
		l[i].Initial = l[i].Low + r.Intn(l[i].High-l[i].Low+1)
	}
	return l
}

func drawOperand(r *rand.Rand, variables int) expr {
	if variables == 0 || r.Intn(3) == 0 {
		return num(r.Intn(4) - 1)
	}
	return expr{Op: api.OpVar, Index: r.Intn(variables)}
}

func drawGuard(r *rand.Rand, variables int) expr {
	switch r.Intn(20) {
	case 0:
		if variables > 1 {
			return op(api.OpAnd, drawComparison(r, variables), tooMuch())
		}
	case 1, 2, 3:
		return expression.True()
	case 4, 5, 6:
		return op(api.OpAnd, drawComparison(r, variables), drawComparison(r, variables))
	}
	return drawComparison(r, variables)
}

func drawComparison(r *rand.Rand, variables int) expr {
	return op(api.OpEq+r.Intn(4), drawOperand(r, variables), drawOperand(r, variables))
}

// drawValue draws a value of a variable; most of them stay within its range.
func drawValue(r *rand.Rand, variables []variable, i int) expr {
	own := expr{Op: api.OpVar, Index: i}
	switch r.Intn(8) {
	case 0:
		return op(api.OpAdd, own, num(1))
	case 1:
		return drawOperand(r, len(variables))
	case 2:
		return num(variables[i].Low)
	}
	return op(api.OpIte, op(api.OpLt, own, num(variables[i].High)), op(api.OpAdd, own, num(1)), num(variables[i].Low))
}

// drawMachine draws an automaton over the variables, with at most so many moves; most of them never have two moves to choose from.
func drawMachine(r *rand.Rand, variables []variable, most int) machine {
	m := machine{Locations: 1 + r.Intn(4), Variables: slices.Clone(variables)}
	m.Initial = r.Intn(m.Locations)
	for event := range 5 {
		if r.Intn(5) < 3 {
			m.Alphabet = append(m.Alphabet, event)
		}
	}
	for location := range m.Locations {
		if r.Intn(3) > 0 {
			m.Marked = append(m.Marked, location)
		}
	}
	for range min(most, 99*len(m.Alphabet)) {
		x := move{From: r.Intn(m.Locations), Event: m.Alphabet[r.Intn(len(m.Alphabet))], To: r.Intn(m.Locations), Guard: drawGuard(r, len(variables))}
		for i := range variables {
			if r.Intn(3) == 0 {
				x.Updates = append(x.Updates, set(i, drawValue(r, variables, i)))
			}
		}
		m.Moves = append(m.Moves, x)
	}
	slices.SortStableFunc(m.Moves, func(x, y move) int { return cmp.Or(x.From-y.From, x.Event-y.Event) })
	if r.Intn(5) > 0 {
		m.Moves = slices.CompactFunc(m.Moves, func(x, y move) bool { return x.From == y.From && x.Event == y.Event })
	}
	return m
}

// drawJoint draws a joint list.
func drawJoint(r *rand.Rand) []machine {
	variables := drawVariables(r)
	var l []machine
	for range 1 + r.Intn(3) {
		l = append(l, drawMachine(r, variables, 1+r.Intn(16)))
	}
	return l
}

// step is what Step returns.
type step struct {
	next     origin
	possible bool
	e        api.Errno
}

func takeStep(l []machine, at origin, event int) step {
	next, possible, e := flatten.Step(l, at, event)
	return step{next, possible, e}
}

func (s step) equal(other step) bool {
	return flatten.EqualOrigins(s.next, other.next) && s.possible == other.possible && s.e == other.e
}

// stepOf is what Step must return for an origin and an event of one of the alphabets, by the words of the chapter.
func stepOf(l []machine, at origin, event int) step {
	next := origin{Locations: slices.Clone(at.Locations), Values: slices.Clone(at.Values)}
	var updates []update
	possible := true
	for i, m := range l {
		if !slices.Contains(m.Alphabet, event) {
			continue
		}
		open := 0
		overflow := false
		for _, x := range m.Moves {
			if x.From != at.Locations[i] || x.Event != event {
				continue
			}
			value, e := expression.Evaluate(x.Guard, at.Values)
			overflow = overflow || e != api.OK
			if value == 1 {
				open++
				next.Locations[i] = x.To
				updates = append(updates, x.Updates...)
			}
		}
		switch {
		case overflow:
			return step{e: api.ErrOverflow}
		case open > 1:
			return step{e: api.ErrChoice}
		case open == 0:
			possible = false
		}
	}
	if !possible {
		return step{}
	}
	for i, u := range updates {
		v := l[0].Variables[u.Variable]
		value, e := expression.Evaluate(u.Value, at.Values)
		if e != api.OK || value < v.Low || value > v.High {
			return step{e: api.ErrOverflow}
		}
		for _, earlier := range updates[:i] {
			if earlier.Variable == u.Variable && next.Values[u.Variable] != value {
				return step{e: api.ErrConflict}
			}
		}
		next.Values[u.Variable] = value
	}
	return step{next, true, api.OK}
}

func startOf(l []machine) origin {
	var o origin
	for _, m := range l {
		o.Locations = append(o.Locations, m.Initial)
	}
	for _, v := range l[0].Variables {
		o.Values = append(o.Values, v.Initial)
	}
	return o
}

func alphabetOf(l []machine) ints {
	var events ints
	for _, m := range l {
		events = append(events, m.Alphabet...)
	}
	slices.Sort(events)
	return slices.Compact(events)
}

// unfolded is what Joint returns.
type unfolded struct {
	a       automaton
	origins []origin
	e       api.Errno
}

func unfold(l ...machine) unfolded {
	a, origins, e := flatten.Joint(l)
	return unfolded{a, origins, e}
}

// unfoldedOf is what Joint must return for a joint list.
func unfoldedOf(l []machine) unfolded {
	u := unfolded{a: automaton{Alphabet: alphabetOf(l)}, origins: []origin{startOf(l)}}
	for i := 0; i < len(u.origins); i++ {
		marked := true
		for k, m := range l {
			marked = marked && slices.Contains(m.Marked, u.origins[i].Locations[k])
		}
		if marked {
			u.a.Marked = append(u.a.Marked, i)
		}
		for _, event := range u.a.Alphabet {
			s := stepOf(l, u.origins[i], event)
			if s.e != api.OK {
				return unfolded{e: s.e}
			}
			if !s.possible {
				continue
			}
			to := slices.IndexFunc(u.origins, func(o origin) bool { return flatten.EqualOrigins(o, s.next) })
			if to < 0 {
				to = len(u.origins)
				u.origins = append(u.origins, s.next)
			}
			u.a.Edges = append(u.a.Edges, edge{From: i, Event: event, To: to})
		}
	}
	u.a.States = len(u.origins)
	return u
}

func equalAutomata(a, b automaton) bool {
	return slices.Equal(a.Alphabet, b.Alphabet) && a.States == b.States && slices.Equal(a.Marked, b.Marked) && slices.Equal(a.Edges, b.Edges)
}

func (u unfolded) equal(other unfolded) bool {
	return equalAutomata(u.a, other.a) && slices.EqualFunc(u.origins, other.origins, flatten.EqualOrigins) && u.e == other.e
}

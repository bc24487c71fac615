package elaborate_test

import (
	"cmp"
	"math/rand"
	"slices"

	"overseer/api"
	"overseer/elaborate"
	"overseer/expression"
	"overseer/extended"
)

type (
	ints  = []int
	names = []string
	expr  = api.Expr
	model = api.Model
	place = elaborate.Place
	state = extended.State
)

func placeOf(kind, index int) place {
	return place{Kind: kind, Index: index}
}

func num(value int) expr {
	return expr{Value: value}
}

func vari(index int) expr {
	return expr{Op: api.OpVar, Index: index}
}

func op(op int, args ...expr) expr {
	return expr{Op: op, Args: args}
}

func at(location int, values ...int) state {
	return state{Location: location, Values: values}
}

// edges are from a state, by an event, to a state.
func edges(l ...[3]int) []api.Edge {
	var all []api.Edge
	for _, x := range l {
		all = append(all, api.Edge{From: x[0], Event: x[1], To: x[2]})
	}
	return all
}

// locals are pairs of a component and a state.
func locals(l ...[2]int) []api.Local {
	var all []api.Local
	for _, x := range l {
		all = append(all, api.Local{Component: x[0], State: x[1]})
	}
	return all
}

// excluded is an exclusion; the names are pairs of a component and a location.
func excluded(name string, l ...string) api.NamedExclusion {
	x := api.NamedExclusion{Name: name}
	for i := 0; i < len(l); i += 2 {
		x.Locals = append(x.Locals, api.NamedLocal{Component: l[i], Location: l[i+1]})
	}
	return x
}

func instance(name, template string, events ...string) api.Instance {
	return api.Instance{Name: name, Template: template, Events: events}
}

// machine is the template of the chapter's first example.
func machine() api.Template {
	return api.Template{
		Name:      "machine",
		Locations: names{"idle", "busy"},
		Events:    names{"begin", "end"},
		Machine: api.Extended{Alphabet: ints{0, 1}, Locations: 2, Marked: ints{0}, Moves: []api.Move{
			{From: 0, Event: 0, To: 1, Guard: expression.True()},
			{From: 1, Event: 1, To: 0, Guard: expression.True()},
		}},
	}
}

// store is a buffer with one location and a variable up to a number.
func store(most int) api.Template {
	n := vari(0)
	return api.Template{
		Name:      "store",
		Locations: names{"it"},
		Events:    names{"put", "take"},
		Machine: api.Extended{Alphabet: ints{0, 1}, Locations: 1, Marked: ints{0}, Variables: []api.Variable{{Name: "n", High: most}}, Moves: []api.Move{
			{Event: 0, Guard: op(api.OpLt, n, num(most)), Updates: []api.Update{{Value: op(api.OpAdd, n, num(1))}}},
			{Event: 1, Guard: op(api.OpLt, num(0), n), Updates: []api.Update{{Value: op(api.OpSub, n, num(1))}}},
		}},
	}
}

// lamp is on or off, has a counter of the events that toggle it, two moves by one event, and a location that is not reached.
func lamp() api.Template {
	k := vari(1)
	few := op(api.OpLt, k, num(3))
	return api.Template{
		Name:      "lamp",
		Locations: names{"broken", "off", "on"},
		Events:    names{"toggle", "reset", "begin"},
		Machine: api.Extended{Alphabet: ints{0, 1, 2}, Locations: 3, Initial: 1, Marked: ints{0, 1}, Variables: []api.Variable{{Name: "low", Low: -2, High: 0, Initial: -1}, {Name: "k", High: 3, Initial: 1}}, Moves: []api.Move{
			{From: 0, Event: 1, To: 0, Guard: expression.True()},
			{From: 1, Event: 0, To: 2, Guard: few, Updates: []api.Update{{Variable: 0, Value: num(-2)}, {Variable: 1, Value: op(api.OpAdd, k, num(1))}}},
			{From: 1, Event: 0, To: 1, Guard: op(api.OpNot, few)},
			{From: 1, Event: 2, To: 1, Guard: expression.True()},
			{From: 2, Event: 0, To: 1, Guard: expression.True()},
			{From: 2, Event: 1, To: 2, Guard: expression.True(), Updates: []api.Update{{Variable: 1, Value: num(0)}}},
		}},
	}
}

// example is the model of the chapter's examples.
func example() model {
	return model{
		Name:       "cell",
		Events:     []api.Event{{Name: "b", Observable: true}, {Name: "a", Controllable: true, Observable: true}},
		Templates:  []api.Template{machine(), store(2)},
		Components: []api.Instance{instance("m1", "machine", "a", "b"), instance("buffer", "store", "b", "a")},
		Exclusions: []api.NamedExclusion{excluded("x", "m1", "busy", "buffer", "it")},
	}
}

// whole has everything that a valid model can have.
func whole() model {
	return model{
		Name: "cell",
		Events: []api.Event{
			{Name: "finish", Observable: true}, {Name: "start", Controllable: true, Observable: true, Forcible: true},
			{Name: "break", Fault: 2}, {Name: "repair", Observable: true}, {Name: "unused"},
		},
		Templates:    []api.Template{lamp(), machine(), store(2), {Name: "empty", Locations: names{"x"}, Machine: api.Extended{Locations: 1}}},
		Components:   []api.Instance{instance("m1", "machine", "start", "finish"), instance("l", "lamp", "break", "start", "repair"), instance("s", "store", "finish", "start")},
		Requirements: []api.Instance{instance("r", "lamp", "repair", "finish", "start"), instance("machine", "empty"), instance("q", "machine", "start", "break")},
		Exclusions:   []api.NamedExclusion{excluded("x", "s", "it", "m1", "busy"), excluded("y", "l", "broken"), excluded("r", "l", "on", "m1", "idle", "s", "it")},
		Constraints: []api.NamedConstraint{
			{Name: "x", Terms: []api.NamedTerm{{Component: "s", Factor: -65536}, {Component: "m1", Factor: 65536}}, Bound: -65536},
			{Name: "m1", Terms: []api.NamedTerm{{Component: "l", Factor: 1}}, Bound: 65536},
		},
	}
}

// machineOf is what the machine of an instance must be, by the words of the chapter.
func machineOf(m model, x api.Instance) api.Extended {
	t := m.Templates[slices.IndexFunc(m.Templates, func(t api.Template) bool { return t.Name == x.Template })]
	number := func(event int) int {
		return slices.IndexFunc(m.Events, func(y api.Event) bool { return y.Name == x.Events[event] })
	}
	y := api.Extended{Locations: t.Machine.Locations, Initial: t.Machine.Initial, Marked: t.Machine.Marked, Variables: t.Machine.Variables}
	for event := range m.Events {
		if slices.Contains(x.Events, m.Events[event].Name) {
			y.Alphabet = append(y.Alphabet, event)
		}
	}
	for from := range y.Locations {
		for _, event := range y.Alphabet {
			for _, move := range t.Machine.Moves {
				if move.From == from && number(move.Event) == event {
					move.Event = event
					y.Moves = append(y.Moves, move)
				}
			}
		}
	}
	return y
}

func drawNames(r *rand.Rand, n int) names {
	l := names{"a", "b", "c", "d", "x", "x_0", "x_1", "_", "Z", "machine"}
	r.Shuffle(len(l), func(i, k int) { l[i], l[k] = l[k], l[i] })
	return l[:n]
}

func drawGuard(r *rand.Rand, variables int) expr {
	if variables == 0 || r.Intn(3) == 0 {
		return expression.True()
	}
	return op(api.OpEq+r.Intn(4), vari(r.Intn(variables)), num(r.Intn(4)-1))
}

func drawTemplate(r *rand.Rand, name string) api.Template {
	t := api.Template{Name: name, Locations: drawNames(r, 1+r.Intn(3)), Events: drawNames(r, r.Intn(4))}
	x := &t.Machine
	for i := range t.Events {
		x.Alphabet = append(x.Alphabet, i)
	}
	x.Locations = len(t.Locations)
	x.Initial = r.Intn(x.Locations)
	for i := range t.Locations {
		if r.Intn(2) == 0 {
			x.Marked = append(x.Marked, i)
		}
	}
	for _, name := range drawNames(r, r.Intn(3)) {
		low := r.Intn(3) - 1
		x.Variables = append(x.Variables, api.Variable{Name: name, Low: low, High: low + 2, Initial: low + r.Intn(3)})
	}
	for range 2 * len(t.Events) {
		y := api.Move{From: r.Intn(x.Locations), Event: r.Intn(len(t.Events)), To: r.Intn(x.Locations), Guard: drawGuard(r, len(x.Variables))}
		for i, v := range x.Variables {
			own := vari(i)
			switch r.Intn(12) {
			case 0:
				y.Updates = append(y.Updates, api.Update{Variable: i, Value: op(api.OpAdd, own, num(1))})
			case 1, 2, 3:
				y.Updates = append(y.Updates, api.Update{Variable: i, Value: op(api.OpIte, op(api.OpLt, own, num(v.High)), op(api.OpAdd, own, num(1)), num(v.Low))})
			}
		}
		x.Moves = append(x.Moves, y)
	}
	slices.SortStableFunc(x.Moves, func(x, y api.Move) int { return cmp.Or(x.From-y.From, x.Event-y.Event) })
	if r.Intn(8) > 0 {
		x.Moves = slices.CompactFunc(x.Moves, func(x, y api.Move) bool { return x.From == y.From && x.Event == y.Event })
	}
	return t
}

// drawInstance draws an instance of one of the templates that has events enough, or nothing.
func drawInstance(r *rand.Rand, m model, name string, events names) (x api.Instance, is bool) {
	t := m.Templates[r.Intn(len(m.Templates))]
	if len(t.Events) > len(events) {
		return x, false
	}
	events = slices.Clone(events)
	r.Shuffle(len(events), func(i, k int) { events[i], events[k] = events[k], events[i] })
	return instance(name, t.Name, events[:len(t.Events)]...), true
}

// drawModel draws a valid model; its cell can have an error.
func drawModel(r *rand.Rand) model {
	m := model{Name: drawNames(r, 1)[0]}
	for _, name := range drawNames(r, 3+r.Intn(3)) {
		m.Events = append(m.Events, api.Event{Name: name, Controllable: r.Intn(2) == 0, Observable: r.Intn(2) == 0, Forcible: r.Intn(2) == 0})
	}
	for _, name := range drawNames(r, 1+r.Intn(3)) {
		m.Templates = append(m.Templates, drawTemplate(r, name))
	}
	var all, used names
	for _, x := range m.Events {
		all = append(all, x.Name)
	}
	l := drawNames(r, 3+r.Intn(3))
	for len(m.Components) < 1+len(l)/2 {
		if x, is := drawInstance(r, m, l[len(m.Components)], all); is {
			m.Components = append(m.Components, x)
			used = append(used, x.Events...)
		}
	}
	slices.Sort(used)
	used = slices.Compact(used)
	for _, name := range l[len(m.Components):] {
		if x, is := drawInstance(r, m, name, used); is {
			m.Requirements = append(m.Requirements, x)
		}
	}
	drawConditions(r, &m)
	return m
}

func drawConditions(r *rand.Rand, m *model) {
	some := func() []api.Instance {
		l := slices.Clone(m.Components)
		r.Shuffle(len(l), func(i, k int) { l[i], l[k] = l[k], l[i] })
		return l[:1+r.Intn(len(l))]
	}
	for _, name := range drawNames(r, r.Intn(4)) {
		x := api.NamedExclusion{Name: name}
		for _, y := range some() {
			t := m.Templates[slices.IndexFunc(m.Templates, func(t api.Template) bool { return t.Name == y.Template })]
			x.Locals = append(x.Locals, api.NamedLocal{Component: y.Name, Location: t.Locations[r.Intn(len(t.Locations))]})
		}
		m.Exclusions = append(m.Exclusions, x)
	}
	for _, name := range drawNames(r, r.Intn(4)) {
		x := api.NamedConstraint{Name: name, Bound: r.Intn(9) - 4}
		for _, y := range some() {
			x.Terms = append(x.Terms, api.NamedTerm{Component: y.Name, Factor: 1 + r.Intn(4)})
		}
		m.Constraints = append(m.Constraints, x)
	}
}

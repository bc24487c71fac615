package elaborate_test

import (
	"fmt"
	"math/rand"
	"reflect"
	"slices"
	"strings"
	"testing"

	"overseer/alphabet"
	"overseer/api"
	"overseer/automaton"
	"overseer/elaborate"
	"overseer/exclusion"
	"overseer/expression"
	"overseer/flatten"
)

// equalCells reports whether all fields are equal, with nil and empty lists alike.
func equalCells(a, b api.Cell) bool {
	items := func(x, y api.Item) bool { return x.Name == y.Name && automaton.Equal(x.Automaton, y.Automaton) }
	return slices.Equal(a.Events, b.Events) &&
		slices.EqualFunc(a.Components, b.Components, items) && slices.EqualFunc(a.Requirements, b.Requirements, items) &&
		slices.EqualFunc(a.Exclusions, b.Exclusions, func(x, y api.Exclusion) bool { return x.Name == y.Name && slices.Equal(x.Locals, y.Locals) }) &&
		slices.EqualFunc(a.Constraints, b.Constraints, func(x, y api.Constraint) bool {
			return x.Name == y.Name && slices.Equal(x.Terms, y.Terms) && x.Bound == y.Bound
		})
}

// isValidCell reports whether a cell is valid, by the words of chapter 25.
func isValidCell(c api.Cell) bool {
	taken := map[string]bool{}
	var used ints
	rules := exclusion.Conditions{Exclusions: c.Exclusions, Constraints: c.Constraints}
	for i, x := range slices.Concat(c.Components, c.Requirements) {
		if taken[x.Name] || !alphabet.IsName(x.Name) || !automaton.IsCanonical(x.Automaton) || x.Automaton.States == 0 || alphabet.CheckSet(x.Automaton.Alphabet, len(c.Events)) != api.OK {
			return false
		}
		taken[x.Name] = true
		if i < len(c.Components) {
			used = alphabet.Union(used, x.Automaton.Alphabet)
			rules.Sizes = append(rules.Sizes, x.Automaton.States)
		} else if !alphabet.Subset(x.Automaton.Alphabet, used) {
			return false
		}
	}
	return alphabet.Check(c.Events) == api.OK && len(c.Components) > 0 && len(c.Components) <= 8 && len(c.Components)+len(c.Requirements) <= 12 && exclusion.Check(rules) == api.OK
}

// cellOf is what Cell must return for a valid model, by the words of the chapter.
func cellOf(m model) (api.Cell, place, api.Errno) {
	c := api.Cell{Events: m.Events}
	var origins [][]state
	for i, x := range m.Components {
		a, l, e := flatten.Unfold(machineOf(m, x))
		if e != api.OK {
			return api.Cell{}, placeOf(elaborate.Component, i), e
		}
		c.Components = append(c.Components, api.Item{Name: x.Name, Automaton: a})
		origins = append(origins, l)
	}
	for i, x := range m.Requirements {
		a, _, e := flatten.Unfold(machineOf(m, x))
		if e != api.OK {
			return api.Cell{}, placeOf(elaborate.Requirement, i), e
		}
		c.Requirements = append(c.Requirements, api.Item{Name: x.Name, Automaton: a})
	}
	for i, x := range m.Exclusions {
		all := exclusionsOf(m, x, origins, 0, nil)
		for k := range all {
			all[k].Name = x.Name
			if len(all) > 1 {
				all[k].Name = fmt.Sprintf("%s_%d", x.Name, k)
			}
		}
		c.Exclusions = append(c.Exclusions, all...)
		if e := errorOfExclusions(c.Exclusions, len(all)); e != api.OK {
			return api.Cell{}, placeOf(elaborate.Exclusion, i), e
		}
	}
	for _, x := range m.Constraints {
		y := api.Constraint{Name: x.Name, Bound: x.Bound}
		for i, component := range m.Components {
			for _, term := range x.Terms {
				if term.Component == component.Name {
					y.Terms = append(y.Terms, api.Term{Component: i, Factor: term.Factor})
				}
			}
		}
		c.Constraints = append(c.Constraints, y)
	}
	return c, place{}, api.OK
}

// exclusionsOf goes through the components from one on, with the states that have been chosen.
func exclusionsOf(m model, x api.NamedExclusion, origins [][]state, component int, chosen []api.Local) []api.Exclusion {
	if component == len(m.Components) {
		return []api.Exclusion{{Locals: chosen}}
	}
	i := slices.IndexFunc(x.Locals, func(y api.NamedLocal) bool { return y.Component == m.Components[component].Name })
	if i < 0 {
		return exclusionsOf(m, x, origins, component+1, chosen)
	}
	k := slices.IndexFunc(m.Templates, func(t api.Template) bool { return t.Name == m.Components[component].Template })
	var all []api.Exclusion
	for n, s := range origins[component] {
		if m.Templates[k].Locations[s.Location] == x.Locals[i].Location {
			all = append(all, exclusionsOf(m, x, origins, component+1, append(slices.Clone(chosen), api.Local{Component: component, State: n}))...)
		}
	}
	return all
}

// errorOfExclusions is the error of the last ones of some exclusions, that come from one of the model.
func errorOfExclusions(l []api.Exclusion, last int) api.Errno {
	if len(l) > 32 && last > 0 {
		return api.ErrLimit
	}
	for _, x := range l[len(l)-last:] {
		if last > 1 && len(x.Name) > 32 {
			return api.ErrName
		}
	}
	for i, x := range l {
		if slices.ContainsFunc(l[:i], func(y api.Exclusion) bool { return y.Name == x.Name }) {
			return api.ErrDuplicate
		}
	}
	return api.OK
}

// P22.4: the chapter's examples.
func TestExamples(t *testing.T) {
	c, where, e := elaborate.Cell(example())
	want := api.Cell{
		Events: example().Events,
		Components: []api.Item{
			{Name: "m1", Automaton: api.Automaton{Alphabet: ints{0, 1}, States: 2, Marked: ints{0}, Edges: edges([3]int{0, 1, 1}, [3]int{1, 0, 0})}},
			{Name: "buffer", Automaton: api.Automaton{Alphabet: ints{0, 1}, States: 3, Marked: ints{0, 1, 2}, Edges: edges([3]int{0, 0, 1}, [3]int{1, 0, 2}, [3]int{1, 1, 0}, [3]int{2, 1, 1})}},
		},
		Exclusions: []api.Exclusion{
			{Name: "x_0", Locals: locals([2]int{0, 1}, [2]int{1, 0})},
			{Name: "x_1", Locals: locals([2]int{0, 1}, [2]int{1, 1})},
			{Name: "x_2", Locals: locals([2]int{0, 1}, [2]int{1, 2})},
		},
	}
	if !equalCells(c, want) || where != (place{}) || e != api.OK {
		t.Errorf("Cell = %v, %v, %d", c, where, e)
	}
}

// P22.4: the exclusions of a cell, whose components are in another order in the model, and its constraints.
func TestConditions(t *testing.T) {
	m := example()
	m.Components = append(m.Components, instance("m2", "machine", "b", "a"))
	m.Exclusions = []api.NamedExclusion{
		excluded("both", "m2", "busy", "m1", "busy"), excluded("z", "m2", "idle", "buffer", "it", "m1", "busy"), excluded("idle", "m2", "idle"),
	}
	m.Constraints = []api.NamedConstraint{
		{Name: "z", Terms: []api.NamedTerm{{Component: "m2", Factor: -3}, {Component: "m1", Factor: 2}, {Component: "buffer", Factor: 1}}, Bound: -7},
		{Name: "y", Terms: []api.NamedTerm{{Component: "buffer", Factor: 65536}}},
	}
	c, _, e := elaborate.Cell(m)
	exclusions := []api.Exclusion{
		{Name: "both", Locals: locals([2]int{0, 1}, [2]int{2, 1})},
		{Name: "z_0", Locals: locals([2]int{0, 1}, [2]int{1, 0}, [2]int{2, 0})},
		{Name: "z_1", Locals: locals([2]int{0, 1}, [2]int{1, 1}, [2]int{2, 0})},
		{Name: "z_2", Locals: locals([2]int{0, 1}, [2]int{1, 2}, [2]int{2, 0})},
		{Name: "idle", Locals: locals([2]int{2, 0})},
	}
	constraints := []api.Constraint{
		{Name: "z", Terms: []api.Term{{Component: 0, Factor: 2}, {Component: 1, Factor: 1}, {Component: 2, Factor: -3}}, Bound: -7},
		{Name: "y", Terms: []api.Term{{Component: 1, Factor: 65536}}},
	}
	if want := (api.Cell{Events: c.Events, Components: c.Components, Exclusions: exclusions, Constraints: constraints}); !equalCells(c, want) || e != api.OK {
		t.Errorf("Cell = %v, %d", c, e)
	}
}

// P22.4, P22.6: cells of models, and their errors with places; the cell of a model is valid.
func TestCell(t *testing.T) {
	r := rand.New(rand.NewSource(4))
	errors, kinds, several, none := map[api.Errno]int{}, map[int]int{}, 0, 0
	for range 9000 {
		m := drawModel(r)
		if at, e := elaborate.Check(m); at != (place{}) || e != api.OK {
			t.Fatalf("Check of %v: %v, %d", m, at, e)
		}
		before := fmt.Sprint(m)
		c, at, e := elaborate.Cell(m)
		want, wantAt, wantError := cellOf(m)
		if !equalCells(c, want) || at != wantAt || e != wantError || fmt.Sprint(m) != before {
			t.Fatalf("Cell of %v is %v, %v, %d, not %v, %v, %d", m, c, at, e, want, wantAt, wantError)
		}
		if e == api.OK && !isValidCell(c) {
			t.Errorf("the cell of %v is not valid: %v", m, c)
		}
		errors[e]++
		kinds[at.Kind]++
		switch {
		case len(c.Exclusions) > len(m.Exclusions):
			several++
		case e == api.OK && len(c.Exclusions) < len(m.Exclusions):
			none++
		}
	}
	if errors[api.OK] < 500 || errors[api.ErrOverflow] < 100 || errors[api.ErrChoice] < 20 || errors[api.ErrLimit] < 20 || errors[api.ErrDuplicate] < 5 || several < 100 || none < 50 {
		t.Errorf("the errors are %v; %d have more exclusions, %d fewer ones", errors, several, none)
	}
	if kinds[elaborate.Component] < 50 || kinds[elaborate.Requirement] < 10 || kinds[elaborate.Exclusion] < 20 {
		t.Errorf("the kinds are %v", kinds)
	}
}

// counterTo is a template with a ring of states up to a number at its first location, and none at its second one.
func counterTo(most int) api.Template {
	n := vari(0)
	value := op(api.OpIte, op(api.OpLt, n, num(most)), op(api.OpAdd, n, num(1)), num(0))
	return api.Template{Name: fmt.Sprint("counter", most), Locations: names{"here", "there"}, Events: names{"go"}, Machine: api.Extended{
		Alphabet: ints{0}, Locations: 2, Marked: ints{0}, Variables: []api.Variable{{Name: "n", High: most}},
		Moves: []api.Move{{Guard: expression.True(), Updates: []api.Update{{Value: value}}}},
	}}
}

// counters is a model with a counter for each number.
func counters(most ...int) model {
	m := model{Name: "counters", Events: []api.Event{{Name: "go"}}}
	for i, n := range most {
		x := counterTo(n)
		x.Name = fmt.Sprint("t", i)
		m.Templates = append(m.Templates, x)
		m.Components = append(m.Components, instance(fmt.Sprint("c", i), x.Name, "go"))
	}
	return m
}

// P22.4: the limits of the states and of the exclusions, also of far too many.
func TestLimits(t *testing.T) {
	long := strings.Repeat("n", 30)
	many := slices.Repeat(ints{4095}, 8)
	everywhere := excluded("all", "c0", "here", "c1", "here", "c2", "here", "c3", "here", "c4", "here", "c5", "here", "c6", "here", "c7", "here")
	nowhere := excluded("none", "c0", "here", "c1", "here", "c2", "here", "c3", "here", "c4", "here", "c5", "here", "c6", "here", "c7", "there")
	for i, c := range []struct {
		m     model
		l     []api.NamedExclusion
		count int
		at    place
		e     api.Errno
	}{
		{counters(many...), nil, 0, place{}, api.OK},
		{counters(many...), []api.NamedExclusion{nowhere}, 0, place{}, api.OK},
		{counters(many...), []api.NamedExclusion{nowhere, everywhere}, 0, placeOf(elaborate.Exclusion, 1), api.ErrLimit},
		{counters(4095, 4096), nil, 0, placeOf(elaborate.Component, 1), api.ErrLimit},
		{counters(31), []api.NamedExclusion{excluded("x", "c0", "here")}, 32, place{}, api.OK},
		{counters(32), []api.NamedExclusion{excluded("x", "c0", "here")}, 0, placeOf(elaborate.Exclusion, 0), api.ErrLimit},
		{counters(32, 1), []api.NamedExclusion{excluded("x", "c0", "here", "c1", "there")}, 0, place{}, api.OK},
		{counters(3, 7), []api.NamedExclusion{excluded("x", "c0", "here", "c1", "here")}, 32, place{}, api.OK},
		{counters(2, 10), []api.NamedExclusion{excluded("x", "c0", "here", "c1", "here")}, 0, placeOf(elaborate.Exclusion, 0), api.ErrLimit},
		{counters(30, 0), []api.NamedExclusion{excluded("x", "c0", "here"), excluded("y", "c1", "here")}, 32, place{}, api.OK},
		{counters(30, 1), []api.NamedExclusion{excluded("x", "c0", "here"), excluded("y", "c1", "here")}, 0, placeOf(elaborate.Exclusion, 1), api.ErrLimit},
		{counters(31, 0), []api.NamedExclusion{excluded("x", "c0", "here"), excluded("z", "c0", "there"), excluded("y", "c1", "here")}, 0, placeOf(elaborate.Exclusion, 2), api.ErrLimit},
		{counters(31, 0), []api.NamedExclusion{excluded("x", "c0", "here"), excluded("z", "c0", "there")}, 32, place{}, api.OK},
		{counters(0), []api.NamedExclusion{excluded(long+"nn", "c0", "here")}, 1, place{}, api.OK},
		{counters(1), []api.NamedExclusion{excluded(long+"n", "c0", "here")}, 0, placeOf(elaborate.Exclusion, 0), api.ErrName},
		{counters(1), []api.NamedExclusion{excluded(long+"n", "c0", "there")}, 0, place{}, api.OK},
		{counters(9), []api.NamedExclusion{excluded(long, "c0", "here")}, 10, place{}, api.OK},
		{counters(10), []api.NamedExclusion{excluded(long, "c0", "here")}, 0, placeOf(elaborate.Exclusion, 0), api.ErrName},
		{counters(32), []api.NamedExclusion{excluded(long, "c0", "here")}, 0, placeOf(elaborate.Exclusion, 0), api.ErrLimit},
		{counters(2, 0), []api.NamedExclusion{excluded("x", "c0", "here"), excluded("x_1", "c1", "here")}, 0, placeOf(elaborate.Exclusion, 1), api.ErrDuplicate},
		{counters(2, 0), []api.NamedExclusion{excluded("x_2", "c1", "here"), excluded("x", "c0", "here")}, 0, placeOf(elaborate.Exclusion, 1), api.ErrDuplicate},
		{counters(2, 0), []api.NamedExclusion{excluded("x_3", "c1", "here"), excluded("x", "c0", "here")}, 4, place{}, api.OK},
		{counters(2, 0), []api.NamedExclusion{excluded("x_1", "c1", "there"), excluded("x", "c0", "here")}, 3, place{}, api.OK},
		{counters(2, 0), []api.NamedExclusion{excluded("x", "c0", "there"), excluded("x_1", "c1", "here")}, 1, place{}, api.OK},
		{counters(1, 10, 0), []api.NamedExclusion{excluded(long+"_1", "c0", "there"), excluded(long, "c0", "here"), excluded("y", "c1", "here"), excluded("y_2", "c2", "here")}, 0, placeOf(elaborate.Exclusion, 3), api.ErrDuplicate},
		{counters(0, 10), []api.NamedExclusion{excluded(long+"_0", "c0", "here"), excluded(long, "c1", "here")}, 0, placeOf(elaborate.Exclusion, 1), api.ErrName},
		{counters(0, 10), []api.NamedExclusion{excluded("y_0", "c0", "here"), excluded("y", "c1", "here"), excluded("z", "c1", "here"), excluded("w", "c1", "here")}, 0, placeOf(elaborate.Exclusion, 1), api.ErrDuplicate},
	} {
		c.m.Exclusions = c.l
		if where, e := elaborate.Check(c.m); where != (place{}) || e != api.OK {
			t.Errorf("%d: Check = %v, %d", i, where, e)
		}
		got, where, e := elaborate.Cell(c.m)
		if len(got.Exclusions) != c.count || where != c.at || e != c.e || e != api.OK && !reflect.DeepEqual(got, api.Cell{}) {
			t.Errorf("%d: Cell has %d exclusions, %v, %d", i, len(got.Exclusions), where, e)
		}
		if e == api.OK && !isValidCell(got) {
			t.Errorf("%d: the cell is not valid", i)
		}
	}
}

// P22.4: an exclusion with many components, each of which has several states.
func TestManyComponents(t *testing.T) {
	for _, most := range [][]int{{1, 1, 1, 1, 1}, {0, 0, 0, 1, 2}, {1, 0, 1, 0, 0, 2, 0, 1}, {0, 1, 0, 7, 0, 0, 0, 0}} {
		m := counters(most...)
		x := excluded("x")
		for i := range most {
			x.Locals = append(x.Locals, api.NamedLocal{Component: fmt.Sprint("c", (i+3)%len(most)), Location: "here"})
		}
		m.Exclusions = []api.NamedExclusion{x}
		c, where, e := elaborate.Cell(m)
		if want, _, _ := cellOf(m); !equalCells(c, want) || where != (place{}) || e != api.OK {
			t.Errorf("%v: Cell = %v, %d", most, c, e)
		}
	}
}

// P22.4: an instance with an error comes before an exclusion with one, and components come before requirements.
func TestFirstErrorOfCell(t *testing.T) {
	bad := store(2)
	bad.Name = "bad"
	bad.Machine.Moves[0].Guard = expression.True()
	choice := machine()
	choice.Name = "choice"
	choice.Machine.Moves = []api.Move{choice.Machine.Moves[0], choice.Machine.Moves[0]}
	m := example()
	m.Templates = append(m.Templates, bad, choice)
	m.Exclusions = append(m.Exclusions, excluded("x_0", "m1", "idle"))
	m.Requirements = []api.Instance{instance("r", "machine", "b", "a"), instance("q", "bad", "a", "b"), instance("p", "choice", "a", "b")}
	for i, c := range []struct {
		damage func()
		at     place
		e      api.Errno
	}{
		{func() {}, placeOf(elaborate.Requirement, 1), api.ErrOverflow},
		{func() { m.Requirements[0].Template = "choice" }, placeOf(elaborate.Requirement, 0), api.ErrChoice},
		{func() { m.Components[1].Template = "bad"; m.Exclusions = m.Exclusions[1:] }, placeOf(elaborate.Component, 1), api.ErrOverflow},
		{func() { m.Components[0].Template = "choice" }, placeOf(elaborate.Component, 0), api.ErrChoice},
	} {
		c.damage()
		if got, where, e := elaborate.Cell(m); where != c.at || e != c.e || !reflect.DeepEqual(got, api.Cell{}) {
			t.Errorf("%d: Cell = %v, %v, %d", i, got, where, e)
		}
	}
	m.Components[0].Template, m.Components[1].Template, m.Requirements = "machine", "store", nil
	m.Exclusions = []api.NamedExclusion{excluded("x", "m1", "busy", "buffer", "it"), excluded("x_0", "m1", "idle")}
	if got, where, e := elaborate.Cell(m); where != placeOf(elaborate.Exclusion, 1) || e != api.ErrDuplicate || !reflect.DeepEqual(got, api.Cell{}) {
		t.Errorf("Cell = %v, %v, %d", got, where, e)
	}
}

// P1, P22.4: a cell shares nothing with its model, and no two of its lists share memory.
func TestCellSharesNothing(t *testing.T) {
	m := whole()
	before := fmt.Sprint(m)
	c, _, e := elaborate.Cell(m)
	if want, _, _ := cellOf(m); e != api.OK || !equalCells(c, want) {
		t.Fatalf("Cell = %v, %d", c, e)
	}
	for i := range c.Exclusions {
		text := fmt.Sprint(c.Exclusions[i+1:])
		for k := range c.Exclusions[i].Locals {
			c.Exclusions[i].Locals[k] = api.Local{Component: -1}
		}
		if _ = append(c.Exclusions[i].Locals, api.Local{Component: -1}); fmt.Sprint(c.Exclusions[i+1:]) != text {
			t.Errorf("the exclusion %d shares memory with others", i)
		}
	}
	for i := range c.Events {
		c.Events[i] = api.Event{}
	}
	if fmt.Sprint(m) != before {
		t.Error("the cell shares memory with the model")
	}
}

// renamed is the model with other names of all events, templates, their events, and locations.
func renamed(m model) model {
	rename := func(l names) names {
		var all names
		for _, name := range l {
			all = append(all, "z"+name)
		}
		return all
	}
	n := model{Name: m.Name, Constraints: m.Constraints}
	for _, x := range m.Events {
		x.Name = "z" + x.Name
		n.Events = append(n.Events, x)
	}
	for _, x := range m.Templates {
		n.Templates = append(n.Templates, api.Template{Name: "z" + x.Name, Locations: rename(x.Locations), Events: rename(x.Events), Machine: x.Machine})
	}
	for _, x := range m.Components {
		n.Components = append(n.Components, instance(x.Name, "z"+x.Template, rename(x.Events)...))
	}
	for _, x := range m.Requirements {
		n.Requirements = append(n.Requirements, instance(x.Name, "z"+x.Template, rename(x.Events)...))
	}
	for _, x := range m.Exclusions {
		y := api.NamedExclusion{Name: x.Name}
		for _, local := range x.Locals {
			y.Locals = append(y.Locals, api.NamedLocal{Component: local.Component, Location: "z" + local.Location})
		}
		n.Exclusions = append(n.Exclusions, y)
	}
	return n
}

// P22.6: neither names nor the order of the templates change a cell.
func TestNamesAndOrder(t *testing.T) {
	r := rand.New(rand.NewSource(5))
	for range 300 {
		m := drawModel(r)
		c, at, e := elaborate.Cell(m)
		n := renamed(m)
		d, otherAt, other := elaborate.Cell(n)
		if other == api.OK {
			d.Events = slices.Clone(c.Events)
		}
		if !equalCells(c, d) || at != otherAt || e != other {
			t.Errorf("%v, %d, but renamed %v, %d", c, e, d, other)
		}
		m.Templates = slices.Clone(m.Templates)
		r.Shuffle(len(m.Templates), func(i, k int) { m.Templates[i], m.Templates[k] = m.Templates[k], m.Templates[i] })
		if d, otherAt, other := elaborate.Cell(m); !equalCells(c, d) || at != otherAt || e != other {
			t.Errorf("%v, %d, but in another order %v, %d", c, e, d, other)
		}
	}
}

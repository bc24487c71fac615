package elaborate_test

import (
	"fmt"
	"math"
	"reflect"
	"slices"
	"testing"

	"overseer/api"
	"overseer/elaborate"
	"overseer/expression"
)

// breakage breaks a valid model in a way that has an error at a place.
type breakage struct {
	at     place
	e      api.Errno
	damage func(m *model)
}

// breakages break the model whole, and are in the order of the errors of Check.
func breakages() []breakage {
	head := func(name string) func(m *model) { return func(m *model) { m.Name = name } }
	l := []breakage{{placeOf(0, 0), api.ErrName, head("")}}
	l = append(l, eventBreakages()...)
	l = append(l, templateBreakages()...)
	l = append(l, instanceBreakages()...)
	return append(l, conditionBreakages()...)
}

func eventBreakages() []breakage {
	event := func(i int, e api.Errno, change func(x *api.Event)) breakage {
		return breakage{placeOf(elaborate.Event, i), e, func(m *model) { change(&m.Events[i]) }}
	}
	return []breakage{
		event(0, api.ErrName, func(x *api.Event) { x.Name = "1" }),
		event(1, api.ErrRange, func(x *api.Event) { x.Fault = 5 }),
		event(2, api.ErrDuplicate, func(x *api.Event) { x.Name = "finish" }),
		event(2, api.ErrConflict, func(x *api.Event) { x.Observable = true }),
		event(3, api.ErrRange, func(x *api.Event) { x.Fault = -1 }),
		{placeOf(elaborate.Event, 32), api.ErrLimit, func(m *model) {
			for i := range 30 {
				m.Events = append(m.Events, api.Event{Name: fmt.Sprint("more", i)})
			}
		}},
	}
}

func templateBreakages() []breakage {
	template := func(i int, e api.Errno, change func(x *api.Template)) breakage {
		return breakage{placeOf(elaborate.Template, i), e, func(m *model) { change(&m.Templates[i]) }}
	}
	return []breakage{
		{placeOf(elaborate.Template, 16), api.ErrLimit, func(m *model) { m.Templates = append(m.Templates, make([]api.Template, 14)...) }},
		template(0, api.ErrName, func(x *api.Template) { x.Name = "a b" }),
		template(0, api.ErrSize, func(x *api.Template) { x.Locations = append(x.Locations, "on") }),
		template(0, api.ErrName, func(x *api.Template) { x.Locations[0] = "" }),
		template(0, api.ErrDuplicate, func(x *api.Template) { x.Locations[1] = x.Locations[0] }),
		template(0, api.ErrName, func(x *api.Template) { x.Locations[2] = "é" }),
		template(0, api.ErrName, func(x *api.Template) { x.Events[0] = "-" }),
		template(0, api.ErrDuplicate, func(x *api.Template) { x.Events[1] = x.Events[0] }),
		template(0, api.ErrName, func(x *api.Template) { x.Events[2] = "2" }),
		template(0, api.ErrForm, func(x *api.Template) { x.Machine.Alphabet[2] = 3 }),
		template(0, api.ErrRange, func(x *api.Template) { x.Machine.Initial = 3 }),
		template(0, api.ErrOrder, func(x *api.Template) { x.Machine.Marked[1] = 0 }),
		template(0, api.ErrType, func(x *api.Template) { x.Machine.Moves[1].Guard = num(1) }),
		template(1, api.ErrDuplicate, func(x *api.Template) { x.Name = "lamp" }),
		template(1, api.ErrSize, func(x *api.Template) { x.Machine.Locations = 3 }),
		template(1, api.ErrForm, func(x *api.Template) { x.Machine.Alphabet = ints{0} }),
		template(1, api.ErrUnknown, func(x *api.Template) { x.Machine.Moves[0].Event = 2 }),
		template(2, api.ErrForm, func(x *api.Template) { x.Machine.Alphabet = ints{1, 0} }),
		template(3, api.ErrForm, func(x *api.Template) { x.Machine.Alphabet = ints{0} }),
		template(3, api.ErrRange, func(x *api.Template) { x.Machine.Initial = -1 }),
	}
}

func instanceBreakages() []breakage {
	component := func(i int, e api.Errno, change func(x *api.Instance)) breakage {
		return breakage{placeOf(elaborate.Component, i), e, func(m *model) { change(&m.Components[i]) }}
	}
	requirement := func(i int, e api.Errno, change func(x *api.Instance)) breakage {
		return breakage{placeOf(elaborate.Requirement, i), e, func(m *model) { change(&m.Requirements[i]) }}
	}
	return []breakage{
		{placeOf(elaborate.Component, 0), api.ErrEmpty, func(m *model) { m.Components = nil }},
		{placeOf(elaborate.Component, 8), api.ErrLimit, func(m *model) { m.Components = append(m.Components, make([]api.Instance, 7)...) }},
		{placeOf(elaborate.Requirement, 9), api.ErrLimit, func(m *model) { m.Requirements = append(m.Requirements, make([]api.Instance, 7)...) }},
		component(0, api.ErrName, func(x *api.Instance) { x.Name = "" }),
		component(0, api.ErrUnknown, func(x *api.Instance) { x.Template = "m1" }),
		component(0, api.ErrSize, func(x *api.Instance) { x.Events = append(x.Events, "?") }),
		component(0, api.ErrUnknown, func(x *api.Instance) { x.Events[0] = "begin" }),
		component(0, api.ErrDuplicate, func(x *api.Instance) { x.Events[1] = x.Events[0] }),
		component(1, api.ErrDuplicate, func(x *api.Instance) { x.Name = "m1" }),
		component(1, api.ErrSize, func(x *api.Instance) { x.Events = x.Events[:2] }),
		component(1, api.ErrDuplicate, func(x *api.Instance) { x.Events[1] = x.Events[0] }),
		component(1, api.ErrUnknown, func(x *api.Instance) { x.Events[2] = "" }),
		component(2, api.ErrUnknown, func(x *api.Instance) { x.Template = "" }),
		requirement(0, api.ErrDuplicate, func(x *api.Instance) { x.Name = "l" }),
		requirement(0, api.ErrUnknown, func(x *api.Instance) { x.Events[1] = "r" }),
		requirement(0, api.ErrDuplicate, func(x *api.Instance) { x.Events[2] = x.Events[0] }),
		requirement(0, api.ErrUnknown, func(x *api.Instance) { x.Events[0] = "unused" }),
		requirement(1, api.ErrName, func(x *api.Instance) { x.Name = "r r" }),
		requirement(1, api.ErrDuplicate, func(x *api.Instance) { x.Name = "r" }),
		requirement(1, api.ErrUnknown, func(x *api.Instance) { x.Template = "nothing" }),
		requirement(2, api.ErrSize, func(x *api.Instance) { x.Events = nil }),
		requirement(2, api.ErrUnknown, func(x *api.Instance) { x.Events[1] = "unused" }),
	}
}

func conditionBreakages() []breakage {
	exclusion := func(i int, e api.Errno, change func(x *api.NamedExclusion)) breakage {
		return breakage{placeOf(elaborate.Exclusion, i), e, func(m *model) { change(&m.Exclusions[i]) }}
	}
	constraint := func(i int, e api.Errno, change func(x *api.NamedConstraint)) breakage {
		return breakage{placeOf(elaborate.Constraint, i), e, func(m *model) { change(&m.Constraints[i]) }}
	}
	return []breakage{
		{placeOf(elaborate.Exclusion, 32), api.ErrLimit, func(m *model) { m.Exclusions = append(m.Exclusions, make([]api.NamedExclusion, 30)...) }},
		exclusion(0, api.ErrName, func(x *api.NamedExclusion) { x.Name = "0" }),
		exclusion(0, api.ErrUnknown, func(x *api.NamedExclusion) { x.Locals[0].Component = "r" }),
		exclusion(0, api.ErrUnknown, func(x *api.NamedExclusion) { x.Locals[0].Location = "idle" }),
		exclusion(0, api.ErrDuplicate, func(x *api.NamedExclusion) { x.Locals[1].Component = "s" }),
		exclusion(0, api.ErrUnknown, func(x *api.NamedExclusion) { x.Locals[1].Location = "" }),
		exclusion(1, api.ErrDuplicate, func(x *api.NamedExclusion) { x.Name = "x" }),
		exclusion(1, api.ErrEmpty, func(x *api.NamedExclusion) { x.Locals = nil }),
		exclusion(2, api.ErrName, func(x *api.NamedExclusion) { x.Name = "" }),
		exclusion(2, api.ErrDuplicate, func(x *api.NamedExclusion) { x.Locals[2].Component = "l" }),
		{placeOf(elaborate.Constraint, 32), api.ErrLimit, func(m *model) { m.Constraints = append(m.Constraints, make([]api.NamedConstraint, 31)...) }},
		constraint(0, api.ErrName, func(x *api.NamedConstraint) { x.Name = "" }),
		constraint(0, api.ErrUnknown, func(x *api.NamedConstraint) { x.Terms[0].Component = "store" }),
		constraint(0, api.ErrRange, func(x *api.NamedConstraint) { x.Terms[0].Factor = 0 }),
		constraint(0, api.ErrDuplicate, func(x *api.NamedConstraint) { x.Terms[1].Component = "s" }),
		constraint(0, api.ErrRange, func(x *api.NamedConstraint) { x.Terms[1].Factor = 65537 }),
		constraint(0, api.ErrRange, func(x *api.NamedConstraint) { x.Bound = -65537 }),
		constraint(1, api.ErrDuplicate, func(x *api.NamedConstraint) { x.Name = "x" }),
		constraint(1, api.ErrEmpty, func(x *api.NamedConstraint) { x.Terms = nil }),
		constraint(1, api.ErrRange, func(x *api.NamedConstraint) { x.Bound = 65537 }),
	}
}

// expectErrors checks that the model has an error at a place, and that all functions return it.
func expectErrors(t *testing.T, about string, m model, where place, want api.Errno) {
	t.Helper()
	if got, e := elaborate.Check(m); got != where || e != want {
		t.Errorf("%s: Check = %v, %d, not %v, %d", about, got, e, where, want)
	}
	if c, got, e := elaborate.Cell(m); got != where || e != want || !reflect.DeepEqual(c, api.Cell{}) {
		t.Errorf("%s: Cell = %v, %v, %d, not %v, %d", about, c, got, e, where, want)
	}
	for _, p := range []place{{}, placeOf(elaborate.Component, 0), placeOf(elaborate.Exclusion, -1), placeOf(7, 0)} {
		if l, e := elaborate.Uses(m, p); l != nil || e != want {
			t.Errorf("%s: Uses = %v, %d, not %d", about, l, e, want)
		}
		if x, e := elaborate.Machine(m, p); !reflect.DeepEqual(x, api.Extended{}) || e != want {
			t.Errorf("%s: Machine = %v, %d, not %d", about, x, e, want)
		}
		if l, e := elaborate.Origins(m, p); l != nil || e != want {
			t.Errorf("%s: Origins = %v, %d, not %d", about, l, e, want)
		}
		if s, e := elaborate.Label(m, p, at(-1)); s != "" || e != want {
			t.Errorf("%s: Label = %q, %d, not %d", about, s, e, want)
		}
	}
}

// P22.1 to P22.5, P1: each error with its place, and of two errors the first one. All functions return it.
func TestErrorsOfCheck(t *testing.T) {
	if at, e := elaborate.Check(whole()); at != (place{}) || e != api.OK {
		t.Fatalf("Check: %v, %d", at, e)
	}
	l := breakages()
	for i, first := range l {
		for k := i; k < len(l); k++ {
			m := whole()
			l[k].damage(&m)
			if k > i {
				first.damage(&m)
			}
			expectErrors(t, fmt.Sprint(i, " and ", k), m, first.at, first.e)
		}
	}
}

// P22.1: the first and the last numbers that are valid, and further errors.
func TestCheck(t *testing.T) {
	manyEvents := func(n int) func(m *model) {
		return func(m *model) {
			for i := len(m.Events); i < n; i++ {
				m.Events = append(m.Events, api.Event{Name: fmt.Sprint("e", i)})
			}
		}
	}
	manyTemplates := func(n int) func(m *model) {
		return func(m *model) {
			for i := len(m.Templates); i < n; i++ {
				x := machine()
				x.Name = fmt.Sprint("t", i)
				m.Templates = append(m.Templates, x)
			}
		}
	}
	manyInstances := func(components, requirements int) func(m *model) {
		return func(m *model) {
			for i := len(m.Components); i < components; i++ {
				m.Components = append(m.Components, instance(fmt.Sprint("c", i), "empty"))
			}
			for i := len(m.Requirements); i < requirements; i++ {
				m.Requirements = append(m.Requirements, instance(fmt.Sprint("q", i), "empty"))
			}
		}
	}
	manyConditions := func(exclusions, constraints int) func(m *model) {
		return func(m *model) {
			for i := len(m.Exclusions); i < exclusions; i++ {
				m.Exclusions = append(m.Exclusions, excluded(fmt.Sprint("e", i), "m1", "idle"))
			}
			for i := len(m.Constraints); i < constraints; i++ {
				m.Constraints = append(m.Constraints, api.NamedConstraint{Name: fmt.Sprint("e", i), Terms: []api.NamedTerm{{Component: "l", Factor: 1}}})
			}
		}
	}
	bound := func(x int) func(m *model) { return func(m *model) { m.Constraints[1].Bound = x } }
	factor := func(x int) func(m *model) { return func(m *model) { m.Constraints[1].Terms[0].Factor = x } }
	for i, c := range []breakage{
		{place{}, api.OK, func(m *model) { *m = example() }},
		{place{}, api.OK, func(m *model) { m.Requirements, m.Exclusions, m.Constraints = nil, nil, nil }},
		{place{}, api.ErrName, func(m *model) { *m = model{} }},
		{placeOf(elaborate.Component, 0), api.ErrEmpty, func(m *model) { *m = model{Name: "m"} }},
		{place{}, api.OK, manyEvents(32)},
		{placeOf(elaborate.Event, 32), api.ErrLimit, manyEvents(33)},
		{placeOf(elaborate.Event, 32), api.ErrLimit, manyEvents(60)},
		{place{}, api.OK, manyTemplates(16)},
		{placeOf(elaborate.Template, 16), api.ErrLimit, manyTemplates(17)},
		{placeOf(elaborate.Template, 16), api.ErrLimit, manyTemplates(40)},
		{place{}, api.OK, manyInstances(8, 4)},
		{place{}, api.OK, manyInstances(3, 9)},
		{placeOf(elaborate.Requirement, 9), api.ErrLimit, manyInstances(3, 10)},
		{placeOf(elaborate.Requirement, 4), api.ErrLimit, manyInstances(8, 5)},
		{placeOf(elaborate.Requirement, 4), api.ErrLimit, manyInstances(8, 9)},
		{placeOf(elaborate.Component, 8), api.ErrLimit, manyInstances(9, 3)},
		{placeOf(elaborate.Component, 8), api.ErrLimit, manyInstances(12, 3)},
		{placeOf(elaborate.Component, 8), api.ErrLimit, manyInstances(13, 13)},
		{place{}, api.OK, manyConditions(32, 32)},
		{placeOf(elaborate.Exclusion, 32), api.ErrLimit, manyConditions(33, 33)},
		{placeOf(elaborate.Constraint, 32), api.ErrLimit, manyConditions(32, 33)},
		{place{}, api.OK, bound(65536)},
		{place{}, api.OK, bound(-65536)},
		{placeOf(elaborate.Constraint, 1), api.ErrRange, bound(math.MaxInt)},
		{placeOf(elaborate.Constraint, 1), api.ErrRange, bound(math.MinInt)},
		{place{}, api.OK, factor(65536)},
		{place{}, api.OK, factor(-65536)},
		{placeOf(elaborate.Constraint, 1), api.ErrRange, factor(-65537)},
		{placeOf(elaborate.Constraint, 1), api.ErrRange, factor(math.MinInt)},
		{placeOf(elaborate.Constraint, 1), api.ErrRange, factor(0)},
		{placeOf(elaborate.Template, 3), api.ErrRange, func(m *model) {
			m.Templates[3].Locations, m.Templates[3].Machine.Locations = nil, 0
		}},
		{placeOf(elaborate.Template, 3), api.ErrSize, func(m *model) {
			m.Templates[3].Locations, m.Templates[3].Machine.Locations = nil, -1
		}},
		{placeOf(elaborate.Template, 3), api.ErrRange, func(m *model) {
			x := &m.Templates[3]
			for i := range 33 {
				x.Events = append(x.Events, fmt.Sprint("e", i))
				x.Machine.Alphabet = append(x.Machine.Alphabet, i)
			}
		}},
	} {
		m := whole()
		c.damage(&m)
		if at, e := elaborate.Check(m); at != c.at || e != c.e {
			t.Errorf("%d: Check = %v, %d, not %v, %d", i, at, e, c.at, c.e)
		}
	}
	if elaborate.MaxTemplates != 16 || elaborate.MaxConditions != 32 || !slices.Equal(ints{elaborate.Head, elaborate.Event, elaborate.Template, elaborate.Component, elaborate.Requirement, elaborate.Exclusion, elaborate.Constraint}, ints{0, 1, 2, 3, 4, 5, 6}) {
		t.Error("the constants")
	}
}

// P22.1: an event of a requirement must be one of some component, not of the first one.
func TestEventsOfRequirements(t *testing.T) {
	m := whole()
	m.Requirements = []api.Instance{instance("q", "machine", "break", "finish")}
	if at, e := elaborate.Check(m); at != (place{}) || e != api.OK {
		t.Errorf("Check = %v, %d", at, e)
	}
	m.Components[1] = instance("l", "empty")
	m.Exclusions, m.Constraints = nil, nil
	if at, e := elaborate.Check(m); at != placeOf(elaborate.Requirement, 0) || e != api.ErrUnknown {
		t.Errorf("Check = %v, %d", at, e)
	}
}

// P22.1: models that differ in one field are not equal.
func TestEqual(t *testing.T) {
	empty := model{Events: []api.Event{}, Templates: []api.Template{}, Components: []api.Instance{}, Requirements: []api.Instance{}, Exclusions: []api.NamedExclusion{}, Constraints: []api.NamedConstraint{}}
	if !elaborate.Equal(empty, model{}) || !elaborate.Equal(whole(), whole()) || elaborate.Equal(whole(), example()) {
		t.Error("Equal of nil and empty lists, and of whole models")
	}
	lists := whole()
	lists.Templates[3].Events, lists.Templates[3].Machine.Moves, lists.Templates[3].Machine.Marked = names{}, []api.Move{}, ints{}
	lists.Templates[0].Machine.Moves[0].Updates, lists.Components[0].Events = []api.Update{}, append(names{}, lists.Components[0].Events...)
	if !elaborate.Equal(lists, whole()) {
		t.Error("Equal of nil and empty lists in templates")
	}
	for i, change := range []func(m *model){
		func(m *model) { m.Name = "other" },
		func(m *model) { m.Events[2].Fault = 1 },
		func(m *model) { m.Events = m.Events[:4] },
		func(m *model) { m.Templates[0].Name = "lamps" },
		func(m *model) { m.Templates[0].Locations[0] = "z" },
		func(m *model) { m.Templates[0].Events[0] = "z" },
		func(m *model) { m.Templates[0].Machine.Alphabet[2] = 3 },
		func(m *model) { m.Templates[0].Machine.Initial = 0 },
		func(m *model) { m.Templates[0].Machine.Locations = 4 },
		func(m *model) { m.Templates[0].Machine.Marked = nil },
		func(m *model) { m.Templates[0].Machine.Variables[0].High = 1 },
		func(m *model) { m.Templates[0].Machine.Moves[1].To = 0 },
		func(m *model) { m.Templates[0].Machine.Moves[1].Guard = expression.False() },
		func(m *model) { m.Templates[0].Machine.Moves[1].Updates[1].Value.Args[1].Value = 2 },
		func(m *model) { m.Templates = m.Templates[:3] },
		func(m *model) { m.Components[1].Name = "k" },
		func(m *model) { m.Components[1].Template = "store" },
		func(m *model) { m.Components[1].Events[0] = "finish" },
		func(m *model) { m.Requirements[1].Name = "k" },
		func(m *model) { m.Requirements, m.Components = m.Components, m.Requirements },
		func(m *model) { m.Exclusions[0].Name = "k" },
		func(m *model) { m.Exclusions[0].Locals[1].Component = "l" },
		func(m *model) { m.Exclusions[0].Locals[1].Location = "l" },
		func(m *model) { m.Constraints[0].Name = "k" },
		func(m *model) { m.Constraints[0].Terms[1].Component = "l" },
		func(m *model) { m.Constraints[0].Terms[1].Factor = 2 },
		func(m *model) { m.Constraints[0].Bound = 0 },
	} {
		m := whole()
		change(&m)
		if elaborate.Equal(m, whole()) || elaborate.Equal(whole(), m) || !elaborate.Equal(m, m) {
			t.Errorf("%d: Equal", i)
		}
	}
}

package cell_test

import (
	"fmt"
	"math"
	"math/rand"
	"reflect"
	"slices"
	"testing"

	"overseer/api"
	"overseer/cell"
	"overseer/elaborate"
	"overseer/exclusion"
	"overseer/parser"
)

// breakage breaks a valid cell in a way that has an error.
type breakage struct {
	e      api.Errno
	damage func(c *api.Cell)
}

// breakages are in the order of the errors of Check.
func breakages() []breakage {
	item := func(c *api.Cell, i int) *api.Item {
		if i < 3 {
			return &c.Components[i]
		}
		return &c.Requirements[i-3]
	}
	broken := func(e api.Errno, i int, a api.Automaton) breakage {
		return breakage{e, func(c *api.Cell) { item(c, i).Automaton = a }}
	}
	called := func(e api.Errno, i int, name string) breakage {
		return breakage{e, func(c *api.Cell) { item(c, i).Name = name }}
	}
	return []breakage{
		{api.ErrLimit, func(c *api.Cell) { c.Events = append(c.Events, events(27)...) }},
		{api.ErrName, func(c *api.Cell) { c.Events[0].Name = "?" }},
		{api.ErrDuplicate, func(c *api.Cell) { c.Events[1].Name = c.Events[0].Name }},
		{api.ErrRange, func(c *api.Cell) { c.Events[2].Fault = 5 }},
		{api.ErrConflict, func(c *api.Cell) { c.Events[3].Fault = 1 }},
		{api.ErrEmpty, func(c *api.Cell) { c.Components = nil }},
		{api.ErrLimit, func(c *api.Cell) { c.Components = append(c.Components, make([]api.Item, 6)...) }},
		{api.ErrLimit, func(c *api.Cell) { c.Requirements = append(c.Requirements, make([]api.Item, 8)...) }},
		called(api.ErrName, 0, ""),
		broken(api.ErrOrder, 0, machine(ints{1, 1}, -1, nil)),
		broken(api.ErrLimit, 0, machine(nil, math.MaxInt, nil)),
		broken(api.ErrRange, 0, machine(ints{32}, 1, nil)),
		broken(api.ErrForm, 0, machine(ints{31}, 2, nil)),
		broken(api.ErrForm, 0, machine(ints{0, 1}, 3, nil, [3]int{0, 0, 2}, [3]int{0, 1, 1})),
		broken(api.ErrEmpty, 0, machine(ints{31}, 0, nil)),
		broken(api.ErrRange, 0, machine(ints{0, 6}, 1, nil)),
		called(api.ErrName, 1, "1m"),
		called(api.ErrDuplicate, 1, "m0"),
		broken(api.ErrUnknown, 1, machine(nil, 1, nil, [3]int{0, 0, 0})),
		broken(api.ErrRange, 1, machine(ints{31}, 1, nil)),
		called(api.ErrName, 3, "a name with blanks"),
		called(api.ErrDuplicate, 3, "m2"),
		broken(api.ErrRange, 3, machine(nil, -1, nil)),
		broken(api.ErrForm, 3, machine(ints{5, 6}, 2, nil)),
		broken(api.ErrEmpty, 3, machine(ints{5, 6}, 0, nil)),
		broken(api.ErrRange, 3, machine(ints{5, 6}, 1, nil)),
		broken(api.ErrUnknown, 3, machine(ints{0, 5}, 1, nil)),
		called(api.ErrDuplicate, 4, "r0"),
		broken(api.ErrUnknown, 4, machine(ints{5}, 1, nil)),
		{api.ErrLimit, func(c *api.Cell) { c.Exclusions = append(c.Exclusions, make([]api.Exclusion, 31)...) }},
		{api.ErrName, func(c *api.Cell) { c.Exclusions[0].Name = "" }},
		{api.ErrDuplicate, func(c *api.Cell) { c.Exclusions[1].Name = "x" }},
		{api.ErrRange, func(c *api.Cell) { c.Exclusions[1].Locals[0] = api.Local{Component: 2, State: 3} }},
		{api.ErrRange, func(c *api.Cell) { c.Constraints[0].Terms[1].Component = 3 }},
		{api.ErrOrder, func(c *api.Cell) { c.Constraints[1].Terms[1].Component = 0 }},
		{api.ErrRange, func(c *api.Cell) { c.Constraints[1].Bound = math.MinInt }},
	}
}

// results are what the functions that return the error of Check first return.
func results(c api.Cell, requirement int, p part) []any {
	conditions, e1 := cell.Conditions(c)
	plant, tuples, e2 := cell.Plant(c)
	spec, e3 := cell.Specify(c)
	complete, forbidden, e4 := cell.Complete(c)
	touched, e5 := cell.Touched(c, requirement)
	chosen, e6 := cell.Select(c, p)
	return []any{conditions, e1, plant, tuples, e2, spec, e3, complete, forbidden, e4, touched, e5, chosen, e6}
}

func zeros(e api.Errno) []any {
	none := ints(nil)
	return []any{exclusion.Conditions{}, e, api.Automaton{}, []ints(nil), e, cell.Specification{}, e, api.Automaton{}, none, e, none, e, api.Cell{}, e}
}

// P25.1, and P1: each error, and of two errors the first one. All functions return it.
func TestErrorsOfCheck(t *testing.T) {
	if e := cell.Check(whole()); e != api.OK {
		t.Fatalf("Check: %d", e)
	}
	l := breakages()
	for i, first := range l {
		for k := i; k < len(l); k++ {
			c := whole()
			l[k].damage(&c)
			if k > i {
				first.damage(&c)
			}
			if e := cell.Check(c); e != first.e {
				t.Errorf("%d and %d: Check = %d, not %d", i, k, e, first.e)
			}
			if got := results(c, -1, part{Components: ints{9}}); !reflect.DeepEqual(got, zeros(first.e)) {
				t.Errorf("%d and %d: %v, not %d", i, k, got, first.e)
			}
		}
	}
}

// P25.1: the first and the last numbers that are valid.
func TestCheck(t *testing.T) {
	idle := machine(nil, 1, nil)
	idles := func(prefix string, n int) []api.Item {
		return items(prefix, slices.Repeat([]api.Automaton{idle}, n)...)
	}
	long := "m2345678901234567890123456789012"
	for i, c := range []struct {
		c api.Cell
		e api.Errno
	}{
		{one(), api.OK},
		{two(), api.OK},
		{api.Cell{}, api.ErrEmpty},
		{api.Cell{Components: idles("m", 1)}, api.OK},
		{api.Cell{Requirements: idles("r", 1)}, api.ErrEmpty},
		{api.Cell{Components: idles("m", 8)}, api.OK},
		{api.Cell{Components: idles("m", 9)}, api.ErrLimit},
		{api.Cell{Components: idles("m", 8), Requirements: idles("r", 4)}, api.OK},
		{api.Cell{Components: idles("m", 8), Requirements: idles("r", 5)}, api.ErrLimit},
		{api.Cell{Components: idles("m", 1), Requirements: idles("r", 11)}, api.OK},
		{api.Cell{Components: idles("m", 1), Requirements: idles("r", 12)}, api.ErrLimit},
		{api.Cell{Components: idles("m", 1), Requirements: idles("m", 1)}, api.ErrDuplicate},
		{api.Cell{Components: []api.Item{{Name: long, Automaton: idle}}}, api.OK},
		{api.Cell{Components: []api.Item{{Name: long + "x", Automaton: idle}}}, api.ErrName},
		{api.Cell{Events: events(32, 0, 31), Components: items("m", ring(4096, 31))}, api.OK},
		{api.Cell{Events: events(31, 0), Components: items("m", ring(4096, 31))}, api.ErrRange},
		{api.Cell{Events: events(32), Components: items("m", ring(4097, 31))}, api.ErrLimit},
		{api.Cell{Events: events(2), Components: items("m", idle, never(1)), Requirements: items("r", never(1))}, api.OK},
		{api.Cell{Events: events(2), Components: items("m", idle, never(1)), Requirements: items("r", never(0, 1))}, api.ErrUnknown},
		{api.Cell{Components: idles("m", 1), Exclusions: []api.Exclusion{excluded("m0", 0, 0)}, Constraints: []api.Constraint{bounded("m0", -1, 0, 1)}}, api.OK},
		{api.Cell{Components: idles("m", 1), Exclusions: []api.Exclusion{excluded("m0", 0, 1)}}, api.ErrRange},
	} {
		if e := cell.Check(c.c); e != c.e {
			t.Errorf("%d: Check = %d, not %d", i, e, c.e)
		}
	}
}

// P25.1: the cell of a model is valid.
func TestCheckOfModel(t *testing.T) {
	m, _, _, e := parser.Parse("model m; event a controllable; event b; template t(x, y) { location p marked; location q; var n: 0..2 = 0; edge p x q when n < 2 do n := n + 1; edge q y p; } component c = t(a, b); requirement d = t(a, b); exclude x: c q;")
	if e != api.OK {
		t.Fatalf("Parse: %d", e)
	}
	c, _, e := elaborate.Cell(m)
	if e != api.OK || cell.Check(c) != api.OK || len(c.Components) != 1 || len(c.Requirements) != 1 {
		t.Errorf("%v: %d, %d", c, e, cell.Check(c))
	}
}

// differences are changes of whole, each of another field.
func differences() []func(c *api.Cell) {
	return []func(c *api.Cell){
		func(c *api.Cell) { c.Events = c.Events[:5] },
		func(c *api.Cell) { c.Events[0].Name = "f" },
		func(c *api.Cell) { c.Events[1].Controllable = true },
		func(c *api.Cell) { c.Events[1].Observable = false },
		func(c *api.Cell) { c.Events[1].Forcible = true },
		func(c *api.Cell) { c.Events[5].Fault = 1 },
		func(c *api.Cell) { c.Components = c.Components[:2] },
		func(c *api.Cell) { c.Components[0], c.Components[1] = c.Components[1], c.Components[0] },
		func(c *api.Cell) { c.Components[2].Name = "r0" },
		func(c *api.Cell) { c.Components[2].Automaton.Alphabet = ints{3} },
		func(c *api.Cell) { c.Components[2].Automaton.States = 4 },
		func(c *api.Cell) { c.Components[2].Automaton.Marked = nil },
		func(c *api.Cell) { c.Components[2].Automaton.Edges[2].To = 1 },
		func(c *api.Cell) { c.Requirements = nil },
		func(c *api.Cell) { c.Requirements[1].Name = "m0" },
		func(c *api.Cell) { c.Requirements[1].Automaton.Marked = ints{0} },
		func(c *api.Cell) { c.Exclusions = c.Exclusions[1:] },
		func(c *api.Cell) { c.Exclusions[0].Name = "z" },
		func(c *api.Cell) { c.Exclusions[0].Locals = c.Exclusions[0].Locals[:1] },
		func(c *api.Cell) { c.Exclusions[0].Locals[1].Component = 2 },
		func(c *api.Cell) { c.Exclusions[0].Locals[1].State = 2 },
		func(c *api.Cell) { c.Constraints = append(c.Constraints, bounded("z", 0)) },
		func(c *api.Cell) { c.Constraints[1].Name = "z" },
		func(c *api.Cell) { c.Constraints[1].Bound = 4 },
		func(c *api.Cell) { c.Constraints[1].Terms = c.Constraints[1].Terms[1:] },
		func(c *api.Cell) { c.Constraints[1].Terms[0].Component = 1 },
		func(c *api.Cell) { c.Constraints[1].Terms[2].Factor = 3 },
	}
}

// P25.1: cells are equal if all fields are, of cells that need not be valid.
func TestEqual(t *testing.T) {
	if !cell.Equal(whole(), whole()) || !cell.Equal(one(), one()) || cell.Equal(one(), two()) {
		t.Error("Equal of the examples")
	}
	l := differences()
	for i, change := range l {
		a, b := whole(), whole()
		change(&a)
		if cell.Equal(a, b) || cell.Equal(b, a) {
			t.Errorf("%d: the cells are different", i)
		}
		change(&b)
		if !cell.Equal(a, b) {
			t.Errorf("%d: the cells are equal", i)
		}
		if other := whole(); i > 0 {
			l[i-1](&other)
			if cell.Equal(a, other) {
				t.Errorf("%d: the cells have different changes", i)
			}
		}
	}
	empty := api.Cell{Events: []api.Event{}, Components: []api.Item{{Automaton: machine(ints{}, 0, ints{})}}, Requirements: []api.Item{}, Exclusions: []api.Exclusion{{Locals: []api.Local{}}}, Constraints: []api.Constraint{{Terms: []api.Term{}}}}
	void := api.Cell{Components: []api.Item{{}}, Exclusions: []api.Exclusion{{}}, Constraints: []api.Constraint{{}}}
	if !cell.Equal(empty, void) || !cell.Equal(void, empty) || !cell.Equal(api.Cell{}, api.Cell{Events: []api.Event{}}) {
		t.Error("lists that are empty and those that are nil are equal")
	}
}

// P25.1: items are found by their names, components first, also in cells that are not valid.
func TestFind(t *testing.T) {
	odd := api.Cell{Components: items("m", machine(nil, -1, nil)), Requirements: append(items("m", never(), never()), items("m", never())...)}
	odd.Requirements[2].Name = ""
	for i, c := range []struct {
		c           api.Cell
		name        string
		kind, index int
	}{
		{whole(), "m0", cell.Component, 0},
		{whole(), "m2", cell.Component, 2},
		{whole(), "r0", cell.Requirement, 0},
		{whole(), "r1", cell.Requirement, 1},
		{whole(), "x", 0, 0},
		{whole(), "e0", 0, 0},
		{whole(), "", 0, 0},
		{whole(), "m", 0, 0},
		{odd, "m0", cell.Component, 0},
		{odd, "m1", cell.Requirement, 1},
		{odd, "", cell.Requirement, 2},
		{api.Cell{}, "m0", 0, 0},
	} {
		if kind, index, found := cell.Find(c.c, c.name); kind != c.kind || index != c.index || found != (c.kind != 0) {
			t.Errorf("%d: Find = %d, %d, %v", i, kind, index, found)
		}
	}
}

// P25.2: the conditions of a cell.
func TestConditions(t *testing.T) {
	c := whole()
	got, e := cell.Conditions(c)
	want := exclusion.Conditions{Sizes: ints{2, 2, 3}, Exclusions: whole().Exclusions, Constraints: whole().Constraints}
	if !reflect.DeepEqual(got, want) || e != api.OK || exclusion.Check(got) != api.OK {
		t.Errorf("Conditions = %v, %d", got, e)
	}
	got.Exclusions[0].Locals[0].State, got.Constraints[0].Terms[0].Factor = 9, 9
	got.Exclusions[1], got.Constraints[1] = excluded(""), bounded("", 0)
	if !cell.Equal(c, whole()) {
		t.Error("the conditions share memory with the cell")
	}
	if got, e := cell.Conditions(one()); !slices.Equal(got.Sizes, ints{2}) || len(got.Exclusions)+len(got.Constraints) > 0 || e != api.OK {
		t.Errorf("Conditions = %v, %d", got, e)
	}
}

// P25.5: the components that have an event of a requirement.
func TestTouched(t *testing.T) {
	c := whole()
	c.Requirements = append(c.Requirements, items("n", never(), never(4), never(0, 1), never(0, 1, 2, 3, 4))...)
	for i, want := range []ints{{0, 1}, {0, 1}, nil, {2}, {0}, {0, 1, 2}} {
		if l, e := cell.Touched(c, i); !slices.Equal(l, want) || e != api.OK {
			t.Errorf("Touched by %d = %v, %d", i, l, e)
		}
	}
	for _, i := range []int{-1, 6, math.MinInt, math.MaxInt} {
		if l, e := cell.Touched(c, i); len(l) > 0 || e != api.ErrNotFound {
			t.Errorf("Touched by %d = %v, %d", i, l, e)
		}
	}
}

// P25.5: a part with new indices of components.
func TestSelect(t *testing.T) {
	got, e := cell.Select(whole(), part{Components: ints{0, 2}, Exclusions: ints{1}, Constraints: ints{0}})
	want := whole()
	want.Components = []api.Item{want.Components[0], want.Components[2]}
	want.Requirements = nil
	want.Exclusions = []api.Exclusion{excluded("y", 1, 2)}
	want.Constraints = []api.Constraint{bounded("x", 2, 0, 1, 1, 1)}
	if !cell.Equal(got, want) || e != api.OK {
		t.Errorf("Select = %v, %d", got, e)
	}
	got, e = cell.Select(whole(), part{Components: ints{0, 1}, Requirements: ints{1}, Exclusions: ints{0}})
	want = whole()
	want.Components, want.Requirements = want.Components[:2], want.Requirements[1:]
	want.Exclusions, want.Constraints = want.Exclusions[:1], nil
	if !cell.Equal(got, want) || e != api.OK {
		t.Errorf("Select = %v, %d", got, e)
	}
}

// P25.5: the errors of Select, and their order.
func TestErrorsOfSelect(t *testing.T) {
	for i, c := range []struct {
		p part
		e api.Errno
	}{
		{part{}, api.ErrEmpty},
		{part{Components: ints{-1}}, api.ErrRange},
		{part{Components: ints{0, 3}}, api.ErrRange},
		{part{Components: ints{1, 1}}, api.ErrOrder},
		{part{Components: ints{1, 0, 3}, Requirements: ints{9}}, api.ErrOrder},
		{part{Components: ints{1}, Requirements: ints{2}}, api.ErrRange},
		{part{Components: ints{1}, Requirements: ints{1, 0}, Exclusions: ints{2}}, api.ErrOrder},
		{part{Components: ints{1}, Exclusions: ints{2}, Constraints: ints{1, 0}}, api.ErrRange},
		{part{Components: ints{1}, Exclusions: ints{1, 0}, Constraints: ints{2}}, api.ErrOrder},
		{part{Components: ints{1}, Constraints: ints{math.MaxInt}}, api.ErrRange},
		{part{Components: ints{1}, Constraints: ints{1, 1}}, api.ErrOrder},
		{part{Exclusions: ints{0}, Constraints: ints{2}}, api.ErrRange},
		{part{Exclusions: ints{0}}, api.ErrConflict},
		{part{Components: ints{1, 2}, Exclusions: ints{0}}, api.ErrConflict},
		{part{Components: ints{0, 1}, Exclusions: ints{0, 1}}, api.ErrConflict},
		{part{Components: ints{0, 1}, Constraints: ints{0}}, api.ErrConflict},
		{part{Components: ints{0, 2}, Exclusions: ints{1}, Constraints: ints{0, 1}}, api.ErrConflict},
		{part{Components: ints{2}, Requirements: ints{0}, Constraints: ints{1}}, api.ErrConflict},
		{part{Components: ints{2}, Requirements: ints{0}}, api.ErrUnknown},
		{part{Components: ints{0, 2}, Requirements: ints{1}}, api.ErrUnknown},
		{part{Requirements: ints{0}}, api.ErrEmpty},
		{part{Components: ints{2}}, api.OK},
		{everything(whole()), api.OK},
	} {
		if got, e := cell.Select(whole(), c.p); e != c.e || e != api.OK && !reflect.DeepEqual(got, api.Cell{}) {
			t.Errorf("%d: Select = %v, %d, not %d", i, got, e, c.e)
		}
	}
}

// P25.5, P25.6: parts by the words of the chapter; the part with everything is the cell itself.
func TestRandomParts(t *testing.T) {
	r := rand.New(rand.NewSource(1))
	errors := map[api.Errno]int{}
	for range 2000 {
		c := draw(r)
		text := fmt.Sprint(c)
		if got, e := cell.Select(c, everything(c)); !cell.Equal(got, c) || e != api.OK {
			t.Fatalf("everything of %v is %v, %d", c, got, e)
		}
		p := part{some(r, len(c.Components), 1+r.Intn(2)), some(r, len(c.Requirements), 2), some(r, len(c.Exclusions), 2), some(r, len(c.Constraints), 2)}
		want := api.Cell{Events: c.Events}
		whole := true
		index := func(i int) int {
			k := slices.Index(p.Components, i)
			whole = whole && k >= 0
			return k
		}
		for _, i := range p.Components {
			want.Components = append(want.Components, c.Components[i])
		}
		for _, i := range p.Requirements {
			want.Requirements = append(want.Requirements, c.Requirements[i])
		}
		for _, i := range p.Exclusions {
			x := api.Exclusion{Name: c.Exclusions[i].Name}
			for _, y := range c.Exclusions[i].Locals {
				x.Locals = append(x.Locals, api.Local{Component: index(y.Component), State: y.State})
			}
			want.Exclusions = append(want.Exclusions, x)
		}
		for _, i := range p.Constraints {
			x := api.Constraint{Name: c.Constraints[i].Name, Bound: c.Constraints[i].Bound}
			for _, y := range c.Constraints[i].Terms {
				x.Terms = append(x.Terms, api.Term{Component: index(y.Component), Factor: y.Factor})
			}
			want.Constraints = append(want.Constraints, x)
		}
		expected := cell.Check(want)
		if !whole {
			expected = api.ErrConflict
		}
		if expected != api.OK {
			want = api.Cell{}
		}
		got, e := cell.Select(c, p)
		if !cell.Equal(got, want) || e != expected || fmt.Sprint(c) != text {
			t.Errorf("Select(%v, %v) = %v, %d, not %v, %d", c, p, got, e, want, expected)
		}
		errors[e]++
	}
	if errors[api.OK] < 300 || errors[api.ErrConflict] < 100 || errors[api.ErrUnknown] < 20 {
		t.Errorf("errors: %v", errors)
	}
}

// P1, P25.5: what Select and Touched return shares no memory with the cell and the part.
func TestPartsShareNothing(t *testing.T) {
	c, p := whole(), everything(whole())
	got, _ := cell.Select(c, p)
	touched, _ := cell.Touched(c, 0)
	touched[0] = 9
	for i := range got.Events {
		got.Events[i] = api.Event{}
	}
	for i, x := range slices.Concat(got.Components, got.Requirements) {
		clear(x.Automaton.Alphabet)
		clear(x.Automaton.Marked)
		clear(x.Automaton.Edges)
		clear(got.Components[:min(i, len(got.Components))])
	}
	clear(got.Requirements)
	for _, x := range got.Exclusions {
		clear(x.Locals)
	}
	for _, x := range got.Constraints {
		clear(x.Terms)
	}
	clear(got.Exclusions)
	clear(got.Constraints)
	if !cell.Equal(c, whole()) || !reflect.DeepEqual(p, everything(whole())) {
		t.Errorf("the cell became %v, the part %v", c, p)
	}
}

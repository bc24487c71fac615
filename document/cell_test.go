package document_test

import (
	"fmt"
	"math"
	"math/rand"
	"reflect"
	"slices"
	"testing"

	"overseer/api"
	"overseer/automaton"
	"overseer/document"
)

// excludedIn and boundedIn are conditions of cells; the numbers are pairs of a component and a state or a factor.
func excludedIn(name string, l ...int) api.Exclusion {
	x := api.Exclusion{Name: name}
	for i := 0; i < len(l); i += 2 {
		x.Locals = append(x.Locals, api.Local{Component: l[i], State: l[i+1]})
	}
	return x
}

func boundedIn(name string, bound int, l ...int) api.Constraint {
	x := api.Constraint{Name: name, Bound: bound}
	for i := 0; i < len(l); i += 2 {
		x.Terms = append(x.Terms, api.Term{Component: l[i], Factor: l[i+1]})
	}
	return x
}

// cellOfWhole is the cell with the items of whole.
func cellOfWhole() api.Cell {
	return api.Cell{
		Events:       events(),
		Components:   []api.Item{{Name: "m1", Automaton: machine()}, {Name: "m2", Automaton: machine()}},
		Requirements: []api.Item{{Name: "m1", Automaton: machine()}},
		Exclusions:   []api.Exclusion{excludedIn("x", 0, 1, 1, 1), excludedIn("m1")},
		Constraints:  []api.Constraint{boundedIn("x", -3, 0, 65536, 1, -2), boundedIn("y", 0)},
	}
}

func equalCells(a, b api.Cell) bool {
	items := func(x, y api.Item) bool { return x.Name == y.Name && automaton.Equal(x.Automaton, y.Automaton) }
	return slices.Equal(a.Events, b.Events) &&
		slices.EqualFunc(a.Components, b.Components, items) && slices.EqualFunc(a.Requirements, b.Requirements, items) &&
		slices.EqualFunc(a.Exclusions, b.Exclusions, func(x, y api.Exclusion) bool { return x.Name == y.Name && slices.Equal(x.Locals, y.Locals) }) &&
		slices.EqualFunc(a.Constraints, b.Constraints, func(x, y api.Constraint) bool {
			return x.Name == y.Name && slices.Equal(x.Terms, y.Terms) && x.Bound == y.Bound
		})
}

// P23.2: the items of a cell, and the cell of items.
func TestItemsAndCell(t *testing.T) {
	l, e := document.Items(cellOfWhole())
	want := whole()
	want[5].Terms[0], want[5].Terms[1] = want[5].Terms[1], want[5].Terms[0]
	if !equalLists(l, want) || e != api.OK {
		t.Errorf("Items = %v, %d", l, e)
	}
	if c, e := document.Cell(events(), whole()); !equalCells(c, cellOfWhole()) || e != api.OK {
		t.Errorf("Cell = %v, %d", c, e)
	}
	if l, e := document.Items(api.Cell{Events: events()}); len(l) > 0 || e != api.OK {
		t.Errorf("Items of nothing = %v, %d", l, e)
	}
	if c, e := document.Cell(nil, nil); !equalCells(c, api.Cell{}) || e != api.OK {
		t.Errorf("Cell of nothing = %v, %d", c, e)
	}
	odd := []api.Event{{Name: "?"}, {Name: "?", Fault: 99}}
	if c, e := document.Cell(odd, many(76, 1)); !slices.Equal(c.Events, odd) || len(c.Components) != 76 || e != api.OK {
		t.Errorf("Cell of odd events = %v, %d", c, e)
	}
}

// P23.2: the errors of Items: a component that is not there comes before all others.
func TestErrorsOfItems(t *testing.T) {
	components := func(n int) []api.Item {
		var l []api.Item
		for i := range n {
			l = append(l, api.Item{Name: fmt.Sprint("c", i)})
		}
		return l
	}
	for i, c := range []struct {
		c api.Cell
		e api.Errno
	}{
		{api.Cell{Exclusions: []api.Exclusion{excludedIn("1", 0, 0)}}, api.ErrRange},
		{api.Cell{Components: components(2), Exclusions: []api.Exclusion{excludedIn("x", 0, 0, 2, 0)}}, api.ErrRange},
		{api.Cell{Components: components(2), Exclusions: []api.Exclusion{excludedIn("x", 0, 0, -1, 0)}}, api.ErrRange},
		{api.Cell{Components: components(99), Constraints: []api.Constraint{boundedIn("x", 0, math.MaxInt, 0)}}, api.ErrRange},
		{api.Cell{Components: components(1), Constraints: []api.Constraint{boundedIn("1", 0, math.MinInt, 0)}}, api.ErrRange},
		{api.Cell{Components: components(1), Constraints: []api.Constraint{boundedIn("x", 0, 0, 1), boundedIn("y", 0, 1, 1)}}, api.ErrRange},
		{api.Cell{Components: components(76)}, api.OK},
		{api.Cell{Components: components(77)}, api.ErrLimit},
		{api.Cell{Components: components(75), Requirements: components(2)}, api.ErrLimit},
		{api.Cell{Components: []api.Item{{Name: "a"}, {Name: "a"}}}, api.ErrDuplicate},
		{api.Cell{Requirements: []api.Item{{Name: ""}, {Name: "a"}}}, api.ErrName},
		{api.Cell{Constraints: []api.Constraint{boundedIn("a", 0), boundedIn("a", 0)}}, api.ErrDuplicate},
		{api.Cell{Exclusions: []api.Exclusion{excludedIn("é")}}, api.ErrName},
	} {
		if l, e := document.Items(c.c); e != c.e || e != api.OK && len(l) > 0 {
			t.Errorf("%d: Items = %v, %d, not %d", i, l, e, c.e)
		}
	}
}

// P23.2: the errors of Cell: the first item, and in it the first component, that has one.
func TestErrorsOfCell(t *testing.T) {
	m1, m2 := component("m1", machine()), component("m2", machine())
	for i, c := range []struct {
		l []item
		e api.Errno
	}{
		{[]item{m1, excluded("x", local("m2", 0))}, api.ErrUnknown},
		{[]item{requirement("m2", machine()), excluded("x", local("m2", 0))}, api.ErrUnknown},
		{[]item{m1, excluded("x", local("m1", 0), local("m1", 1))}, api.ErrDuplicate},
		{[]item{m1, excluded("x", local("m1", 0), local("m1", 1), local("m2", 0))}, api.ErrDuplicate},
		{[]item{m1, excluded("x", local("m2", 0), local("m1", 1), local("m1", 0))}, api.ErrUnknown},
		{[]item{m1, excluded("x", local("", 0), local("", 0))}, api.ErrUnknown},
		{[]item{m1, excluded("x", local("m1", 0)), excluded("y", local("m1", 0))}, api.OK},
		{[]item{m1, bounded("x", 0, term("m2", 0))}, api.ErrUnknown},
		{[]item{m1, m2, bounded("x", 0, term("m2", 0), term("m1", 1), term("m2", 2))}, api.ErrDuplicate},
		{[]item{m1, m2, bounded("x", 0, term("m2", 0), term("m1", 1)), bounded("y", 0, term("m1", 0))}, api.OK},
		{[]item{m1, m2, excluded("x", local("m1", 1), local("m1", 1)), bounded("x", 0, term("m3", 0))}, api.ErrDuplicate},
		{[]item{m1, m2, excluded("x", local("m3", 1)), bounded("x", 0, term("m1", 0), term("m1", 0))}, api.ErrUnknown},
	} {
		if got, e := document.Cell(events(), c.l); e != c.e || e != api.OK && !reflect.DeepEqual(got, api.Cell{}) {
			t.Errorf("%d: Cell = %v, %d, not %d", i, got, e, c.e)
		}
	}
}

// drawCell draws a cell with right names, whose conditions have increasing components.
func drawCell(r *rand.Rand) api.Cell {
	c := api.Cell{Events: events()[:r.Intn(5)]}
	for i := range r.Intn(5) {
		c.Components = append(c.Components, api.Item{Name: fmt.Sprint("c", (i*3+1)%5), Automaton: drawAutomaton(r)})
	}
	for i := range r.Intn(3) {
		c.Requirements = append(c.Requirements, api.Item{Name: fmt.Sprint("c", i), Automaton: drawAutomaton(r)})
	}
	for i := range r.Intn(3) {
		x, y := excludedIn(fmt.Sprint("x", i)), boundedIn(fmt.Sprint("x", i), r.Intn(9)-4)
		for k := range c.Components {
			if r.Intn(2) == 0 {
				x.Locals = append(x.Locals, api.Local{Component: k, State: r.Intn(9)})
			}
			if r.Intn(2) == 0 {
				y.Terms = append(y.Terms, api.Term{Component: k, Factor: r.Intn(9)})
			}
		}
		c.Exclusions, c.Constraints = append(c.Exclusions, x), append(c.Constraints, y)
	}
	return c
}

// P23.6: the cell of the items of a cell is the cell itself, also if the names in its conditions stand in another order.
func TestCellOfItems(t *testing.T) {
	r := rand.New(rand.NewSource(5))
	for range 500 {
		c := drawCell(r)
		before := fmt.Sprint(c)
		l, e := document.Items(c)
		if e != api.OK || fmt.Sprint(c) != before || len(l) != len(c.Components)+len(c.Requirements)+len(c.Exclusions)+len(c.Constraints) {
			t.Fatalf("Items of %v = %v, %d", c, l, e)
		}
		again, e := document.Cell(c.Events, l)
		if !equalCells(again, c) || e != api.OK {
			t.Errorf("%v became %v, %d", c, again, e)
		}
		for _, x := range l {
			r.Shuffle(len(x.Locals), func(i, k int) { x.Locals[i], x.Locals[k] = x.Locals[k], x.Locals[i] })
			slices.Reverse(x.Terms)
		}
		text := fmt.Sprint(l)
		if again, e := document.Cell(c.Events, l); !equalCells(again, c) || e != api.OK || fmt.Sprint(l) != text {
			t.Errorf("%v became %v, %d, after a shuffle", c, again, e)
		}
	}
}

// P1, P23.2: items and cells share nothing with what they are made of.
func TestCellsShareNothing(t *testing.T) {
	c := cellOfWhole()
	l, e := document.Items(c)
	spoil(l)
	if !equalCells(c, cellOfWhole()) || e != api.OK {
		t.Errorf("the items share memory with the cell: %v, %d", c, e)
	}
	own, items := events(), whole()
	c, e = document.Cell(own, items)
	for i := range c.Events {
		c.Events[i] = api.Event{}
	}
	for _, x := range slices.Concat(c.Components, c.Requirements) {
		spoil([]item{{Automaton: x.Automaton}})
	}
	for _, x := range c.Exclusions {
		clear(x.Locals)
	}
	for _, x := range c.Constraints {
		clear(x.Terms)
	}
	if !slices.Equal(own, events()) || !equalLists(items, whole()) || e != api.OK {
		t.Errorf("the cell shares memory with the items: %v, %d", items, e)
	}
}

package document_test

import (
	"cmp"
	"fmt"
	"math/rand"
	"reflect"
	"slices"
	"strings"
	"testing"

	"overseer/alphabet"
	"overseer/api"
	"overseer/automaton"
	"overseer/document"
)

type (
	ints = []int
	item = document.Item
	edit = document.Edit
)

// edges are from a state, by an event, to a state.
func edges(l ...[3]int) []api.Edge {
	var all []api.Edge
	for _, x := range l {
		all = append(all, api.Edge{From: x[0], Event: x[1], To: x[2]})
	}
	return all
}

// machine is the automaton of the chapter's third example.
func machine() api.Automaton {
	return api.Automaton{Alphabet: ints{0, 1}, States: 2, Marked: ints{0}, Edges: edges([3]int{0, 0, 1}, [3]int{1, 1, 0})}
}

func component(name string, a api.Automaton) item {
	return item{Kind: document.Component, Name: name, Automaton: a}
}

func requirement(name string, a api.Automaton) item {
	return item{Kind: document.Requirement, Name: name, Automaton: a}
}

func local(component string, state int) document.Local {
	return document.Local{Component: component, State: state}
}

func term(component string, factor int) document.Term {
	return document.Term{Component: component, Factor: factor}
}

func excluded(name string, l ...document.Local) item {
	return item{Kind: document.Exclusion, Name: name, Locals: l}
}

func bounded(name string, bound int, l ...document.Term) item {
	return item{Kind: document.Constraint, Name: name, Terms: l, Bound: bound}
}

func events() []api.Event {
	return []api.Event{{Name: "start", Controllable: true, Observable: true}, {Name: "finish", Observable: true}, {Name: "e2"}, {Name: "e3"}}
}

// example has the items of the chapter's first example.
func example() []item {
	b := api.Automaton{Alphabet: ints{0}, States: 1, Marked: ints{0}}
	return []item{component("m1", machine()), component("m2", machine()), requirement("b", b), excluded("x", local("m1", 1), local("m2", 1))}
}

// whole has items of all kinds.
func whole() []item {
	l := example()
	l[2] = requirement("m1", machine())
	return append(l, excluded("m1"), bounded("x", -3, term("m2", -2), term("m1", 65536)), bounded("y", 0))
}

// equal reports whether all fields are equal, with nil and empty lists alike.
func equal(a, b item) bool {
	return a.Kind == b.Kind && a.Name == b.Name && automaton.Equal(a.Automaton, b.Automaton) && slices.Equal(a.Locals, b.Locals) && slices.Equal(a.Terms, b.Terms) && a.Bound == b.Bound
}

func equalLists(a, b []item) bool {
	return slices.EqualFunc(a, b, equal)
}

func equalEdits(a, b []edit) bool {
	return slices.EqualFunc(a, b, func(x, y edit) bool { return x.Drop == y.Drop && equal(x.Item, y.Item) })
}

// many are n different items of a kind.
func many(n, kind int) []item {
	var l []item
	for i := range n {
		l = append(l, item{Kind: kind, Name: fmt.Sprint("n", i)})
	}
	return l
}

func drawName(r *rand.Rand) string {
	return [...]string{"m1", "m2", "b", "x", "x_0"}[r.Intn(5)]
}

func drawItem(r *rand.Rand) item {
	x := item{Kind: 1 + r.Intn(4), Name: drawName(r)}
	switch x.Kind {
	case document.Component, document.Requirement:
		x.Automaton = [...]api.Automaton{{}, machine(), {States: 1}, {States: -1, Marked: ints{9}}}[r.Intn(4)]
	case document.Exclusion:
		for range r.Intn(3) {
			x.Locals = append(x.Locals, local(drawName(r), r.Intn(2)))
		}
	case document.Constraint:
		for range r.Intn(3) {
			x.Terms = append(x.Terms, term(drawName(r), 1+r.Intn(2)))
		}
		x.Bound = r.Intn(2)
	}
	return x
}

// drawItems draws a valid list.
func drawItems(r *rand.Rand) []item {
	var l []item
	for range r.Intn(8) {
		x := drawItem(r)
		if !slices.ContainsFunc(l, func(y item) bool { return y.Kind == x.Kind && y.Name == x.Name }) {
			l = append(l, x)
		}
	}
	slices.SortStableFunc(l, func(x, y item) int { return cmp.Compare(x.Kind, y.Kind) })
	return l
}

// breakage breaks a valid list in a way that has an error.
type breakage struct {
	e      api.Errno
	damage func(l []item) []item
}

// breakages break the list whole, and are in the order of the errors of Check.
func breakages() []breakage {
	at := func(i int, e api.Errno, change func(x *item)) breakage {
		return breakage{e, func(l []item) []item {
			change(&l[i])
			return l
		}}
	}
	return []breakage{
		{api.ErrLimit, func(l []item) []item { return append(l, make([]item, 70)...) }},
		at(0, api.ErrKind, func(x *item) { x.Kind = 0 }),
		at(0, api.ErrName, func(x *item) { x.Name = "" }),
		at(0, api.ErrForm, func(x *item) { x.Locals = []document.Local{{}} }),
		at(1, api.ErrDuplicate, func(x *item) { x.Name = "m1" }),
		at(1, api.ErrForm, func(x *item) { x.Bound = -1 }),
		at(2, api.ErrKind, func(x *item) { x.Kind = 5 }),
		at(2, api.ErrName, func(x *item) { x.Name = "a b" }),
		at(3, api.ErrOrder, func(x *item) { x.Kind, x.Name = document.Component, "m4" }),
		at(3, api.ErrForm, func(x *item) { x.Automaton.Alphabet = ints{1} }),
		at(4, api.ErrDuplicate, func(x *item) { x.Name = "x" }),
		at(4, api.ErrForm, func(x *item) { x.Terms = []document.Term{{}} }),
		at(6, api.ErrKind, func(x *item) { x.Kind = -1 }),
		at(6, api.ErrDuplicate, func(x *item) { x.Kind, x.Name = document.Constraint, "x" }),
		at(6, api.ErrOrder, func(x *item) { x.Kind = document.Requirement }),
		at(6, api.ErrForm, func(x *item) { x.Locals = []document.Local{{}} }),
	}
}

// P23.1 to P23.5, P1: each error, and of two errors the first one. All functions with lists return it.
func TestErrorsOfCheck(t *testing.T) {
	if e := document.Check(whole()); e != api.OK {
		t.Fatalf("Check: %d", e)
	}
	l := breakages()
	for i, first := range l {
		for k := i; k < len(l); k++ {
			bad := l[k].damage(whole())
			if k > i {
				bad = first.damage(bad)
			}
			expectErrors(t, fmt.Sprint(i, " and ", k), bad, first.e)
		}
	}
}

// expectErrors checks that all functions with a list return an error for it.
func expectErrors(t *testing.T, about string, l []item, want api.Errno) {
	t.Helper()
	if e := document.Check(l); e != want {
		t.Errorf("%s: Check = %d, not %d", about, e, want)
	}
	if c, e := document.Cell(nil, l); !reflect.DeepEqual(c, api.Cell{}) || e != want {
		t.Errorf("%s: Cell = %v, %d, not %d", about, c, e, want)
	}
	if got, e := document.Put(l, item{}); len(got) > 0 || e != want {
		t.Errorf("%s: Put = %v, %d, not %d", about, got, e, want)
	}
	if got, e := document.Drop(l, 0, ""); len(got) > 0 || e != want {
		t.Errorf("%s: Drop = %v, %d, not %d", about, got, e, want)
	}
	for i, edits := range [][]edit{nil, {{Drop: true}}, {{Item: item{Kind: 9}}}} {
		if got, e := document.Apply(l, edits); len(got) > 0 || e != want {
			t.Errorf("%s, %d: Apply = %v, %d, not %d", about, i, got, e, want)
		}
	}
	if got, e := document.Users(l, "m1"); len(got) > 0 || e != want {
		t.Errorf("%s: Users = %v, %d, not %d", about, got, e, want)
	}
	other := []item{{Kind: 9, Name: "n"}}
	for i, pair := range [][2][]item{{l, whole()}, {whole(), l}, {l, other}, {l, l}} {
		if got, e := document.Difference(pair[0], pair[1]); len(got) > 0 || e != want {
			t.Errorf("%s, %d: Difference = %v, %d, not %d", about, i, got, e, want)
		}
	}
	if _, e := document.Difference(other, l); e != api.ErrKind {
		t.Errorf("%s: Difference = %d, not that of the first list", about, e)
	}
}

// P23.1: what is valid, and each field that belongs to other kinds.
func TestCheck(t *testing.T) {
	wild := api.Automaton{Alphabet: ints{99, -1}, States: -5, Marked: ints{7}, Edges: edges([3]int{9, 9, 9})}
	for i, c := range []struct {
		l []item
		e api.Errno
	}{
		{nil, api.OK},
		{many(76, 1), api.OK},
		{many(77, 1), api.ErrLimit},
		{make([]item, 77), api.ErrLimit},
		{slices.Concat(many(8, 1), many(4, 2), many(32, 3), many(32, 4)), api.OK},
		{[]item{component("a", wild), requirement("a", wild)}, api.OK},
		{[]item{excluded("a", local("", -9), local("", -9))}, api.OK},
		{[]item{bounded("a", 1<<40, term("?", 0))}, api.OK},
		{[]item{{Kind: 3, Name: "a", Automaton: api.Automaton{Alphabet: ints{}, Marked: ints{}, Edges: []api.Edge{}}, Terms: []document.Term{}}}, api.OK},
		{[]item{{Kind: 1, Name: "a", Locals: []document.Local{}, Terms: []document.Term{}}}, api.OK},
		{[]item{{Kind: 1, Name: "a", Locals: []document.Local{{}}}}, api.ErrForm},
		{[]item{{Kind: 1, Name: "a", Terms: []document.Term{{}}}}, api.ErrForm},
		{[]item{{Kind: 1, Name: "a", Bound: 1}}, api.ErrForm},
		{[]item{{Kind: 2, Name: "a", Locals: []document.Local{{}}}}, api.ErrForm},
		{[]item{{Kind: 2, Name: "a", Terms: []document.Term{{}}}}, api.ErrForm},
		{[]item{{Kind: 2, Name: "a", Bound: -1}}, api.ErrForm},
		{[]item{{Kind: 3, Name: "a", Automaton: api.Automaton{Alphabet: ints{0}}}}, api.ErrForm},
		{[]item{{Kind: 3, Name: "a", Automaton: api.Automaton{States: 1}}}, api.ErrForm},
		{[]item{{Kind: 3, Name: "a", Automaton: api.Automaton{Marked: ints{0}}}}, api.ErrForm},
		{[]item{{Kind: 3, Name: "a", Automaton: api.Automaton{Edges: edges([3]int{})}}}, api.ErrForm},
		{[]item{{Kind: 3, Name: "a", Terms: []document.Term{{}}}}, api.ErrForm},
		{[]item{{Kind: 3, Name: "a", Bound: 1}}, api.ErrForm},
		{[]item{{Kind: 4, Name: "a", Automaton: api.Automaton{States: 1}}}, api.ErrForm},
		{[]item{{Kind: 4, Name: "a", Locals: []document.Local{{}}}}, api.ErrForm},
		{[]item{{Kind: 0, Name: "a"}}, api.ErrKind},
		{[]item{{Kind: 5, Name: "a"}}, api.ErrKind},
		{[]item{{Kind: 1, Name: "1"}}, api.ErrName},
		{[]item{{Kind: 1, Name: strings.Repeat("n", 33)}}, api.ErrName},
		{[]item{{Kind: 1, Name: strings.Repeat("n", 32)}}, api.OK},
		{[]item{{Kind: 2, Name: "a"}, {Kind: 1, Name: "a"}}, api.ErrOrder},
		{[]item{{Kind: 2, Name: "a"}, {Kind: 2, Name: "b"}, {Kind: 4, Name: "a"}, {Kind: 3, Name: "a"}}, api.ErrOrder},
		{[]item{{Kind: 1, Name: "a"}, {Kind: 2, Name: "a"}, {Kind: 1, Name: "a", Bound: 1}}, api.ErrDuplicate},
		{[]item{{Kind: 1, Name: "a"}, {Kind: 1, Name: "b"}, {Kind: 1, Name: "a"}}, api.ErrDuplicate},
	} {
		if e := document.Check(c.l); e != c.e {
			t.Errorf("%d: Check = %d, not %d", i, e, c.e)
		}
	}
	if document.MaxItems != 76 || document.Component != 1 || document.Requirement != 2 || document.Exclusion != 3 || document.Constraint != 4 {
		t.Error("the constants")
	}
}

// P23.1: items that differ in one field are not equal.
func TestEqual(t *testing.T) {
	full := func() item {
		return item{Kind: 1, Name: "n", Automaton: machine(), Locals: []document.Local{local("a", 1), local("b", 2)}, Terms: []document.Term{term("a", 1)}, Bound: 3}
	}
	for i, change := range []func(x *item){
		func(x *item) { x.Kind = 2 },
		func(x *item) { x.Name = "m" },
		func(x *item) { x.Automaton.Alphabet[0] = 5 },
		func(x *item) { x.Automaton.States = 3 },
		func(x *item) { x.Automaton.Marked = nil },
		func(x *item) { x.Automaton.Edges[1].To = 1 },
		func(x *item) { x.Locals[1].Component = "c" },
		func(x *item) { x.Locals[1].State = 3 },
		func(x *item) { x.Locals = x.Locals[:1] },
		func(x *item) { x.Locals[0], x.Locals[1] = x.Locals[1], x.Locals[0] },
		func(x *item) { x.Terms[0].Component = "c" },
		func(x *item) { x.Terms[0].Factor = -1 },
		func(x *item) { x.Terms = append(x.Terms, x.Terms[0]) },
		func(x *item) { x.Bound = 2 },
	} {
		x := full()
		change(&x)
		if document.Equal(x, full()) || document.Equal(full(), x) || !document.Equal(x, x) {
			t.Errorf("%d: Equal", i)
		}
		if document.Alike([]item{full(), x}, []item{full(), full()}) || document.Alike([]item{full()}, []item{x}) {
			t.Errorf("%d: Alike", i)
		}
	}
	empty := item{Automaton: api.Automaton{Alphabet: ints{}, Marked: ints{}, Edges: []api.Edge{}}, Locals: []document.Local{}, Terms: []document.Term{}}
	if !document.Equal(full(), full()) || !document.Equal(empty, item{}) || !document.Equal(item{}, empty) {
		t.Error("Equal of equal items")
	}
}

// P23.1: lists in any order are alike.
func TestAlike(t *testing.T) {
	x, y, z := item{Kind: 9}, item{Name: "?"}, item{Bound: 1}
	for i, c := range []struct {
		a, b []item
		is   bool
	}{
		{nil, nil, true},
		{nil, []item{}, true},
		{[]item{x}, nil, false},
		{[]item{x, y, z}, []item{z, x, y}, true},
		{[]item{x, y}, []item{x, y, y}, false},
		{[]item{x, x}, []item{x, y}, false},
		{[]item{x, y}, []item{x, x}, false},
		{[]item{x, y}, []item{x, z}, false},
		{[]item{x, y, z}, []item{x, y}, false},
		{whole(), whole(), true},
	} {
		if is := document.Alike(c.a, c.b); is != c.is {
			t.Errorf("%d: Alike = %v", i, is)
		}
		if is := document.Alike(c.b, c.a); is != c.is {
			t.Errorf("%d: Alike the other way = %v", i, is)
		}
	}
}

// P23.3: Find, in any list.
func TestFind(t *testing.T) {
	l := append(whole(), item{Kind: 9, Name: ""}, item{Kind: 1, Name: "m1"}, item{Kind: 9, Name: ""})
	for i, c := range []struct {
		kind  int
		name  string
		index int
		found bool
	}{
		{1, "m1", 0, true},
		{1, "m2", 1, true},
		{2, "m1", 2, true},
		{3, "x", 3, true},
		{3, "m1", 4, true},
		{4, "x", 5, true},
		{9, "", 7, true},
		{4, "m1", 0, false},
		{2, "m2", 0, false},
		{0, "m1", 0, false},
		{1, "", 0, false},
	} {
		if index, found := document.Find(l, c.kind, c.name); index != c.index || found != c.found {
			t.Errorf("%d: Find = %d, %v", i, index, found)
		}
	}
	if index, found := document.Find(nil, 1, "m1"); index != 0 || found {
		t.Errorf("Find in nothing = %d, %v", index, found)
	}
}

// P23.5: the exclusions and constraints that name a component.
func TestUsers(t *testing.T) {
	l := append(whole(), bounded("z", 0, term("gone", 1), term("m2", 1)))
	for name, want := range map[string]ints{"m1": {3, 5}, "m2": {3, 5, 7}, "gone": {7}, "x": nil, "": nil} {
		if users, e := document.Users(l, name); !slices.Equal(users, want) || e != api.OK {
			t.Errorf("Users of %q = %v, %d", name, users, e)
		}
	}
	r := rand.New(rand.NewSource(1))
	for range 500 {
		l, name := drawItems(r), drawName(r)
		var want ints
		for i, x := range l {
			is := false
			for _, y := range x.Locals {
				is = is || y.Component == name
			}
			for _, y := range x.Terms {
				is = is || y.Component == name
			}
			if is {
				want = append(want, i)
			}
		}
		if users, e := document.Users(l, name); !slices.Equal(users, want) || e != api.OK {
			t.Errorf("Users of %q in %v = %v, %d", name, l, users, e)
		}
	}
}

// textOf is the text of an item, by the words of the chapter.
func textOf(x item) string {
	var b strings.Builder
	switch x.Kind {
	case document.Component, document.Requirement:
		b.WriteString([]string{"component", "requirement"}[x.Kind-1] + " " + x.Name)
		for _, event := range x.Automaton.Alphabet {
			fmt.Fprintf(&b, " %s", events()[event].Name)
		}
		b.WriteString("\n")
		for state := range x.Automaton.States {
			fmt.Fprintf(&b, "  %d", state)
			if slices.Contains(x.Automaton.Marked, state) {
				b.WriteString(" marked")
			}
			for _, y := range x.Automaton.Edges {
				if y.From == state {
					fmt.Fprintf(&b, " %s>%d", events()[y.Event].Name, y.To)
				}
			}
			b.WriteString("\n")
		}
	case document.Exclusion:
		fmt.Fprintf(&b, "exclude %s:", x.Name)
		for i, y := range x.Locals {
			fmt.Fprintf(&b, "%s %s=%d", []string{"", ","}[min(i, 1)], y.Component, y.State)
		}
		b.WriteString("\n")
	case document.Constraint:
		fmt.Fprintf(&b, "limit %s:", x.Name)
		for i, y := range x.Terms {
			fmt.Fprintf(&b, "%s %d*%s", []string{"", " +"}[min(i, 1)], y.Factor, y.Component)
		}
		fmt.Fprintf(&b, " <= %d\n", x.Bound)
	}
	return b.String()
}

func drawAutomaton(r *rand.Rand) api.Automaton {
	var a api.Automaton
	for event := range 4 {
		if r.Intn(2) == 0 {
			a.Alphabet = append(a.Alphabet, event)
		}
	}
	a.States = r.Intn(13)
	for state := range a.States {
		if r.Intn(2) == 0 {
			a.Marked = append(a.Marked, state)
		}
		for _, event := range a.Alphabet {
			if r.Intn(3) > 0 {
				a.Edges = append(a.Edges, api.Edge{From: state, Event: event, To: r.Intn(a.States)})
			}
		}
	}
	return a
}

// P23.5: the texts of items.
func TestText(t *testing.T) {
	for i, c := range []struct {
		x    item
		text string
	}{
		{example()[3], "exclude x: m1=1, m2=1\n"},
		{component("m1", machine()), "component m1 start finish\n  0 marked start>1\n  1 finish>0\n"},
		{requirement("b", api.Automaton{Alphabet: ints{1, 3}, States: 1}), "requirement b finish e3\n  0\n"},
		{requirement("none", api.Automaton{}), "requirement none\n"},
		{excluded("x"), "exclude x:\n"},
		{excluded("x", local("? ", -12)), "exclude x: ? =-12\n"},
		{bounded("y", -7, term("m1", -2), term("m2", 65536), term("m1", 0)), "limit y: -2*m1 + 65536*m2 + 0*m1 <= -7\n"},
		{bounded("y", 12), "limit y: <= 12\n"},
	} {
		if text, e := document.Text(events(), c.x); text != c.text || textOf(c.x) != c.text || e != api.OK {
			t.Errorf("%d: Text = %q, %d, not %q", i, text, e, c.text)
		}
	}
	r := rand.New(rand.NewSource(2))
	for range 500 {
		x := drawItem(r)
		if x.Kind <= document.Requirement {
			x.Automaton = drawAutomaton(r)
		}
		before := fmt.Sprint(x)
		if text, e := document.Text(events(), x); text != textOf(x) || e != api.OK || fmt.Sprint(x) != before {
			t.Errorf("Text of %v = %q, %d", x, text, e)
		}
	}
}

// P23.5: the errors of Text, in their order.
func TestErrorsOfText(t *testing.T) {
	wrong := []api.Event{{Name: "a"}, {Name: "a"}}
	long := excluded("x")
	for range 6000 {
		long.Locals = append(long.Locals, local("m12345", 1000))
	}
	odd := component("m", api.Automaton{Alphabet: ints{3, 1}, States: 1})
	for i, c := range []struct {
		events []api.Event
		x      item
		e      api.Errno
	}{
		{wrong, item{}, api.ErrDuplicate},
		{make([]api.Event, 33), example()[0], api.ErrLimit},
		{events(), item{}, api.ErrKind},
		{events(), item{Kind: 1, Name: "1"}, api.ErrName},
		{events(), item{Kind: 1, Name: "m", Bound: 1, Automaton: odd.Automaton}, api.ErrForm},
		{nil, odd, api.ErrOrder},
		{nil, component("m", api.Automaton{Alphabet: ints{0}, States: -1}), api.ErrRange},
		{nil, component("m", api.Automaton{Alphabet: ints{0}, States: 4097}), api.ErrLimit},
		{nil, component("m", api.Automaton{Alphabet: ints{0}, States: 1}), api.ErrRange},
		{events()[:3], requirement("m", api.Automaton{Alphabet: ints{1, 3}}), api.ErrRange},
		{events(), requirement("m", api.Automaton{Alphabet: ints{1, 4}}), api.ErrRange},
		{events(), long, api.ErrLong},
	} {
		if text, e := document.Text(c.events, c.x); text != "" || e != c.e {
			t.Errorf("%d: Text = %q, %d, not %d", i, text, e, c.e)
		}
	}
	if e := alphabet.Check(events()); e != api.OK {
		t.Errorf("the events: %d", e)
	}
}

// P23.5: the longest text, and one that is a byte too long.
func TestLongText(t *testing.T) {
	for _, length := range []int{65535, 65536, 65537} {
		x := bounded("n", 0, term("", 1))
		rest := length - len(textOf(x))
		x.Terms[0].Component = strings.Repeat("c", rest)
		text, e := document.Text(nil, x)
		if length <= api.MaxText && (text != textOf(x) || len(text) != length || e != api.OK) || length > api.MaxText && (text != "" || e != api.ErrLong) {
			t.Errorf("%d bytes: %d, %d", length, len(text), e)
		}
	}
}

package document_test

import (
	"fmt"
	"math"
	"math/rand"
	"slices"
	"testing"

	"overseer/api"
	"overseer/document"
)

// P23.4: the chapter's second example.
func TestEditsOfExample(t *testing.T) {
	l := example()
	c := requirement("c", machine())
	after, e := document.Put(l, c)
	if want := slices.Insert(example(), 3, c); !equalLists(after, want) || e != api.OK {
		t.Errorf("Put = %v, %d", after, e)
	}
	after, e = document.Drop(after, document.Component, "m2")
	if want := []item{l[0], l[2], c, l[3]}; !equalLists(after, want) || e != api.OK {
		t.Errorf("Drop = %v, %d", after, e)
	}
	edits, e := document.Difference(l, after)
	if want := []edit{{Drop: true, Item: item{Kind: document.Component, Name: "m2"}}, {Item: c}}; !equalEdits(edits, want) || e != api.OK {
		t.Errorf("Difference = %v, %d", edits, e)
	}
	if _, e := document.Cell(events(), after); e != api.ErrUnknown {
		t.Errorf("Cell: %d", e)
	}
}

// put, drop and difference do what the functions must do, by the words of the chapter.
func put(l []item, x item) []item {
	after := slices.Clone(l)
	for i, y := range after {
		if y.Kind == x.Kind && y.Name == x.Name {
			after[i] = x
			return after
		}
	}
	last := -1
	for i, y := range after {
		if y.Kind <= x.Kind {
			last = i
		}
	}
	return slices.Concat(after[:last+1], []item{x}, after[last+1:])
}

func drop(l []item, x item) []item {
	var after []item
	for _, y := range l {
		if y.Kind != x.Kind || y.Name != x.Name {
			after = append(after, y)
		}
	}
	return after
}

func difference(a, b []item) []edit {
	hasKey := func(l []item, x item) bool { return len(drop(l, x)) < len(l) }
	var edits []edit
	for _, x := range a {
		if !hasKey(b, x) {
			edits = append(edits, edit{Drop: true, Item: item{Kind: x.Kind, Name: x.Name}})
		}
	}
	for _, x := range b {
		if !slices.ContainsFunc(a, func(y item) bool { return equal(x, y) }) {
			edits = append(edits, edit{Item: x})
		}
	}
	return edits
}

// P23.3, P23.6: putting and dropping.
func TestPutAndDrop(t *testing.T) {
	r := rand.New(rand.NewSource(3))
	replaced, added := 0, 0
	for range 2000 {
		l, x := drawItems(r), drawItem(r)
		before := fmt.Sprint(l, x)
		after, e := document.Put(l, x)
		if !equalLists(after, put(l, x)) || e != api.OK || document.Check(after) != api.OK {
			t.Fatalf("Put of %v in %v = %v, %d", x, l, after, e)
		}
		if i, found := document.Find(after, x.Kind, x.Name); !found || !equal(after[i], x) {
			t.Errorf("%v is not found in %v", x, after)
		}
		if twice, e := document.Put(after, x); !equalLists(twice, after) || e != api.OK {
			t.Errorf("putting %v twice gives %v, %d", x, twice, e)
		}
		without, e := document.Drop(after, x.Kind, x.Name)
		if !equalLists(without, drop(l, x)) || e != api.OK {
			t.Errorf("Drop of %v from %v = %v, %d", x, after, without, e)
		}
		if len(after) == len(l) {
			replaced++
		} else {
			added++
			if !equalLists(without, l) {
				t.Errorf("dropping %v does not give %v back", x, l)
			}
			if gone, e := document.Drop(l, x.Kind, x.Name); len(gone) > 0 || e != api.ErrNotFound {
				t.Errorf("Drop of nothing = %v, %d", gone, e)
			}
		}
		if fmt.Sprint(l, x) != before {
			t.Errorf("the arguments are changed: %v, %v", l, x)
		}
	}
	if replaced < 200 || added < 200 {
		t.Errorf("%d are replaced, %d are added", replaced, added)
	}
}

// P23.3: an item with fields that are nil takes the place of another one; one with a wrong field does not.
func TestErrorsOfPut(t *testing.T) {
	full := slices.Concat(many(30, 1), many(46, 3))
	for i, c := range []struct {
		l []item
		x item
		e api.Errno
	}{
		{whole(), item{}, api.ErrKind},
		{whole(), item{Kind: 5, Name: "1"}, api.ErrKind},
		{whole(), item{Kind: 1}, api.ErrName},
		{whole(), item{Kind: 1, Name: "m1", Bound: 2}, api.ErrForm},
		{whole(), item{Kind: 4, Name: "new", Automaton: machine()}, api.ErrForm},
		{full, item{Kind: 1, Name: "new"}, api.ErrLimit},
		{full, item{Kind: 4, Name: "n0"}, api.ErrLimit},
		{full, item{Kind: 4, Name: "n0", Locals: []document.Local{{}}}, api.ErrForm},
		{full, item{Kind: 0, Name: "n0"}, api.ErrKind},
		{full, component("n7", machine()), api.OK},
		{full[1:], component("new", machine()), api.OK},
		{full[1:], bounded("new", 3), api.OK},
		{nil, bounded("new", 3), api.OK},
	} {
		for k, put := range []func() ([]item, api.Errno){
			func() ([]item, api.Errno) { return document.Put(c.l, c.x) },
			func() ([]item, api.Errno) { return document.Apply(c.l, []edit{{Item: c.x}}) },
		} {
			after, e := put()
			_, found := document.Find(after, c.x.Kind, c.x.Name)
			if e != c.e || found != (e == api.OK) || e != api.OK && len(after) > 0 {
				t.Errorf("%d, %d: Put = %v, %d, not %d", i, k, after, e, c.e)
			}
		}
	}
	for _, kind := range []int{0, 2, 5, -1, math.MinInt, math.MaxInt} {
		if l, e := document.Drop(whole(), kind, "x"); len(l) > 0 || e != api.ErrNotFound {
			t.Errorf("Drop = %v, %d", l, e)
		}
	}
}

// P23.4: edits in their order, up to the first error.
func TestApply(t *testing.T) {
	gone := edit{Drop: true, Item: item{Kind: 1, Name: "m1"}}
	odd := gone
	odd.Item.Bound, odd.Item.Locals, odd.Item.Automaton = 7, []document.Local{{}}, machine()
	back := edit{Item: component("m1", api.Automaton{})}
	for i, c := range []struct {
		edits []edit
		names []string
		e     api.Errno
	}{
		{nil, []string{"m1", "m2", "b", "x"}, api.OK},
		{[]edit{gone}, []string{"m2", "b", "x"}, api.OK},
		{[]edit{odd}, []string{"m2", "b", "x"}, api.OK},
		{[]edit{gone, back}, []string{"m2", "m1", "b", "x"}, api.OK},
		{[]edit{back, gone}, []string{"m2", "b", "x"}, api.OK},
		{[]edit{gone, gone}, nil, api.ErrNotFound},
		{[]edit{gone, back, gone, back, back}, []string{"m2", "m1", "b", "x"}, api.OK},
		{[]edit{{Drop: true, Item: item{Kind: 9}}, {Item: item{Kind: 9}}}, nil, api.ErrNotFound},
		{[]edit{{Item: item{Kind: 9}}, {Drop: true, Item: item{Kind: 9}}}, nil, api.ErrKind},
		{[]edit{gone, {Item: item{Kind: 3, Name: "?"}}}, nil, api.ErrName},
		{[]edit{gone, {Item: item{Kind: 3, Name: "y", Bound: 1}}, gone}, nil, api.ErrForm},
	} {
		before := fmt.Sprint(c.edits)
		l, e := document.Apply(example(), c.edits)
		var names []string
		for _, x := range l {
			names = append(names, x.Name)
		}
		if !slices.Equal(names, c.names) || e != c.e || fmt.Sprint(c.edits) != before {
			t.Errorf("%d: Apply = %v, %d", i, names, e)
		}
	}
	full := many(76, 2)
	swap := []edit{{Drop: true, Item: full[3]}, {Item: item{Kind: 2, Name: "new"}}}
	if l, e := document.Apply(full, swap); len(l) != 76 || e != api.OK {
		t.Errorf("a full list: %d, %d", len(l), e)
	}
	slices.Reverse(swap)
	if l, e := document.Apply(full, swap); len(l) != 0 || e != api.ErrLimit {
		t.Errorf("a full list: %d, %d", len(l), e)
	}
}

// P23.4, P23.6: the difference makes a list like the other one.
func TestDifference(t *testing.T) {
	r := rand.New(rand.NewSource(4))
	drops, puts := 0, 0
	for range 2000 {
		a, b := drawItems(r), drawItems(r)
		before := fmt.Sprint(a, b)
		edits, e := document.Difference(a, b)
		if !equalEdits(edits, difference(a, b)) || e != api.OK {
			t.Fatalf("Difference of %v and %v = %v, %d", a, b, edits, e)
		}
		after, e := document.Apply(a, edits)
		if !document.Alike(after, b) || e != api.OK {
			t.Errorf("%v after %v is %v, %d, not like %v", a, edits, after, e, b)
		}
		if none, e := document.Difference(a, a); len(none) > 0 || e != api.OK {
			t.Errorf("the difference of %v and itself is %v, %d", a, none, e)
		}
		if fmt.Sprint(a, b) != before {
			t.Errorf("the arguments are changed: %v, %v", a, b)
		}
		for _, x := range edits {
			if x.Drop {
				drops++
			} else {
				puts++
			}
		}
	}
	if drops < 500 || puts < 500 {
		t.Errorf("%d drops, %d puts", drops, puts)
	}
}

// spoil changes all memory of some items.
func spoil(l []item) {
	for i := range l {
		x := &l[i]
		for k := range x.Automaton.Alphabet {
			x.Automaton.Alphabet[k] = -1
		}
		for k := range x.Automaton.Marked {
			x.Automaton.Marked[k] = -1
		}
		for k := range x.Automaton.Edges {
			x.Automaton.Edges[k] = api.Edge{From: -1}
		}
		for k := range x.Locals {
			x.Locals[k] = local("-", -1)
		}
		for k := range x.Terms {
			x.Terms[k] = term("-", -1)
		}
		*x = item{}
	}
}

// P1, P23: results share nothing with arguments.
func TestEditsShareNothing(t *testing.T) {
	l, x, other := whole(), requirement("new", machine()), whole()
	other[1].Automaton, other[3].Locals, other[5].Terms = api.Automaton{States: 1, Marked: ints{0}}, []document.Local{local("m1", 0)}, []document.Term{term("m1", 2)}
	edits := []edit{{Item: x}, {Item: excluded("new", local("m1", 1))}, {Item: bounded("new", 1, term("m1", 1))}, {Item: excluded("x", local("m1", 1))}}
	before := fmt.Sprint(l, x, other, edits)
	for i, make := range []func() ([]item, api.Errno){
		func() ([]item, api.Errno) { return document.Put(l, x) },
		func() ([]item, api.Errno) { return document.Put(l[:3], l[0]) },
		func() ([]item, api.Errno) { return document.Drop(l, document.Component, "m1") },
		func() ([]item, api.Errno) { return document.Apply(l, nil) },
		func() ([]item, api.Errno) { return document.Apply(l, edits) },
		func() ([]item, api.Errno) {
			edits, e := document.Difference(l, other)
			var items []item
			for _, x := range edits {
				items = append(items, x.Item)
			}
			return items, e
		},
	} {
		result, e := make()
		if len(result) == 0 || e != api.OK {
			t.Errorf("%d: %v, %d", i, result, e)
		}
		spoil(result)
		if fmt.Sprint(l, x, other, edits) != before {
			t.Fatalf("%d: the result shares memory with the arguments", i)
		}
	}
	twice, e := document.Apply(l, []edit{{Item: x}, {Item: requirement("newer", x.Automaton)}})
	if e != api.OK || len(twice) != len(l)+2 {
		t.Fatalf("Apply: %d", e)
	}
	spoil(twice[3:4])
	if !equal(twice[4], requirement("newer", machine())) {
		t.Error("two items of one result share memory")
	}
}

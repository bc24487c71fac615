package elaborate_test

import (
	"fmt"
	"math"
	"math/rand"
	"reflect"
	"slices"
	"testing"

	"overseer/api"
	"overseer/automaton"
	"overseer/elaborate"
	"overseer/expression"
	"overseer/extended"
	"overseer/flatten"
)

// P22.2: Find looks at the items of one kind, of any model.
func TestFind(t *testing.T) {
	m := whole()
	for i, c := range []struct {
		kind  int
		name  string
		index int
		found bool
	}{
		{elaborate.Event, "finish", 0, true},
		{elaborate.Event, "unused", 4, true},
		{elaborate.Event, "m1", 0, false},
		{elaborate.Template, "lamp", 0, true},
		{elaborate.Template, "empty", 3, true},
		{elaborate.Template, "idle", 0, false},
		{elaborate.Component, "s", 2, true},
		{elaborate.Component, "machine", 0, false},
		{elaborate.Requirement, "machine", 1, true},
		{elaborate.Requirement, "q", 2, true},
		{elaborate.Requirement, "s", 0, false},
		{elaborate.Exclusion, "r", 2, true},
		{elaborate.Exclusion, "m1", 0, false},
		{elaborate.Constraint, "m1", 1, true},
		{elaborate.Constraint, "r", 0, false},
		{elaborate.Constraint, "", 0, false},
		{elaborate.Head, "cell", 0, false},
		{7, "m1", 0, false},
		{-1, "m1", 0, false},
		{math.MinInt, "", 0, false},
	} {
		if index, found := elaborate.Find(m, c.kind, c.name); index != c.index || found != c.found {
			t.Errorf("%d: Find = %d, %v", i, index, found)
		}
	}
	wrong := model{
		Events:       []api.Event{{Name: "b"}, {Name: ""}, {Name: "b"}, {Name: ""}},
		Templates:    []api.Template{{Name: "x"}, {Name: "b"}, {Name: "b"}},
		Components:   []api.Instance{{Name: "x"}, {Name: "y"}, {Name: "b"}, {Name: "b"}},
		Requirements: []api.Instance{{Name: "b"}, {Name: "b"}},
		Exclusions:   []api.NamedExclusion{{Name: "x"}, {Name: "b"}, {Name: "b"}},
		Constraints:  []api.NamedConstraint{{Name: "x"}, {Name: "x"}, {Name: "b"}, {Name: "b"}},
	}
	for kind, want := range []int{0, 0, 1, 2, 0, 1, 2} {
		if index, found := elaborate.Find(wrong, kind, "b"); index != want || found != (kind != elaborate.Head) {
			t.Errorf("kind %d: Find = %d, %v", kind, index, found)
		}
	}
	if index, found := elaborate.Find(wrong, elaborate.Event, ""); index != 1 || !found {
		t.Errorf("Find of no name = %d, %v", index, found)
	}
}

// P22.2: what the items of each kind refer to.
func TestUses(t *testing.T) {
	m := whole()
	before := fmt.Sprint(m)
	for i, c := range []struct {
		at   place
		uses []place
		e    api.Errno
	}{
		{placeOf(elaborate.Component, 0), []place{placeOf(1, 0), placeOf(1, 1), placeOf(2, 1)}, api.OK},
		{placeOf(elaborate.Component, 1), []place{placeOf(1, 1), placeOf(1, 2), placeOf(1, 3), placeOf(2, 0)}, api.OK},
		{placeOf(elaborate.Requirement, 0), []place{placeOf(1, 0), placeOf(1, 1), placeOf(1, 3), placeOf(2, 0)}, api.OK},
		{placeOf(elaborate.Requirement, 1), []place{placeOf(2, 3)}, api.OK},
		{placeOf(elaborate.Requirement, 2), []place{placeOf(1, 1), placeOf(1, 2), placeOf(2, 1)}, api.OK},
		{placeOf(elaborate.Exclusion, 0), []place{placeOf(3, 0), placeOf(3, 2)}, api.OK},
		{placeOf(elaborate.Exclusion, 1), []place{placeOf(3, 1)}, api.OK},
		{placeOf(elaborate.Exclusion, 2), []place{placeOf(3, 0), placeOf(3, 1), placeOf(3, 2)}, api.OK},
		{placeOf(elaborate.Constraint, 0), []place{placeOf(3, 0), placeOf(3, 2)}, api.OK},
		{placeOf(elaborate.Constraint, 1), []place{placeOf(3, 1)}, api.OK},
		{placeOf(elaborate.Event, 0), nil, api.OK},
		{placeOf(elaborate.Event, 4), nil, api.OK},
		{placeOf(elaborate.Template, 3), nil, api.OK},
		{placeOf(elaborate.Head, 0), nil, api.ErrKind},
		{placeOf(-1, 0), nil, api.ErrKind},
		{placeOf(7, -1), nil, api.ErrKind},
		{placeOf(elaborate.Event, 5), nil, api.ErrNotFound},
		{placeOf(elaborate.Event, -1), nil, api.ErrNotFound},
		{placeOf(elaborate.Template, 4), nil, api.ErrNotFound},
		{placeOf(elaborate.Component, 3), nil, api.ErrNotFound},
		{placeOf(elaborate.Component, math.MinInt), nil, api.ErrNotFound},
		{placeOf(elaborate.Requirement, 3), nil, api.ErrNotFound},
		{placeOf(elaborate.Requirement, -1), nil, api.ErrNotFound},
		{placeOf(elaborate.Exclusion, 3), nil, api.ErrNotFound},
		{placeOf(elaborate.Exclusion, -1), nil, api.ErrNotFound},
		{placeOf(elaborate.Constraint, 2), nil, api.ErrNotFound},
		{placeOf(elaborate.Constraint, math.MaxInt), nil, api.ErrNotFound},
	} {
		if uses, e := elaborate.Uses(m, c.at); !slices.Equal(uses, c.uses) || e != c.e {
			t.Errorf("%d: Uses(%v) = %v, %d", i, c.at, uses, e)
		}
	}
	if fmt.Sprint(m) != before {
		t.Error("Uses changes the model")
	}
}

// P22.3, P22.5: the errors of places.
func TestErrorsOfPlaces(t *testing.T) {
	m := whole()
	for _, c := range []struct {
		at place
		e  api.Errno
	}{
		{placeOf(elaborate.Head, 0), api.ErrKind},
		{placeOf(elaborate.Event, 0), api.ErrKind},
		{placeOf(elaborate.Template, 0), api.ErrKind},
		{placeOf(elaborate.Exclusion, 0), api.ErrKind},
		{placeOf(elaborate.Constraint, 99), api.ErrKind},
		{placeOf(-3, 0), api.ErrKind},
		{placeOf(math.MaxInt, 0), api.ErrKind},
		{placeOf(elaborate.Component, 3), api.ErrNotFound},
		{placeOf(elaborate.Component, -1), api.ErrNotFound},
		{placeOf(elaborate.Component, math.MaxInt), api.ErrNotFound},
		{placeOf(elaborate.Requirement, 3), api.ErrNotFound},
		{placeOf(elaborate.Requirement, math.MinInt), api.ErrNotFound},
	} {
		if x, e := elaborate.Machine(m, c.at); !reflect.DeepEqual(x, api.Extended{}) || e != c.e {
			t.Errorf("Machine(%v) = %v, %d", c.at, x, e)
		}
		if l, e := elaborate.Origins(m, c.at); l != nil || e != c.e {
			t.Errorf("Origins(%v) = %v, %d", c.at, l, e)
		}
		if s, e := elaborate.Label(m, c.at, at(-1)); s != "" || e != c.e {
			t.Errorf("Label(%v) = %q, %d", c.at, s, e)
		}
	}
}

// instancesOf are all places of instances of a model.
func instancesOf(m model) map[place]api.Instance {
	l := map[place]api.Instance{}
	for i, x := range m.Components {
		l[placeOf(elaborate.Component, i)] = x
	}
	for i, x := range m.Requirements {
		l[placeOf(elaborate.Requirement, i)] = x
	}
	return l
}

// equalMachines compares machines as the parts of models are compared.
func equalMachines(a, b api.Extended) bool {
	of := func(x api.Extended) model { return model{Templates: []api.Template{{Machine: x}}} }
	return elaborate.Equal(of(a), of(b))
}

// P22.3: the machine has the events of the model; moves by one event keep their order.
func TestMachine(t *testing.T) {
	few := op(api.OpLt, vari(1), num(3))
	want := lamp().Machine // toggle, reset and begin are 2, 1 and 3
	want.Alphabet = ints{1, 2, 3}
	want.Moves = []api.Move{
		{From: 0, Event: 1, To: 0, Guard: expression.True()},
		{From: 1, Event: 2, To: 2, Guard: few, Updates: []api.Update{{Variable: 0, Value: num(-2)}, {Variable: 1, Value: op(api.OpAdd, vari(1), num(1))}}},
		{From: 1, Event: 2, To: 1, Guard: op(api.OpNot, few)},
		{From: 1, Event: 3, To: 1, Guard: expression.True()},
		{From: 2, Event: 1, To: 2, Guard: expression.True(), Updates: []api.Update{{Variable: 1, Value: num(0)}}},
		{From: 2, Event: 2, To: 1, Guard: expression.True()},
	}
	if x, e := elaborate.Machine(whole(), placeOf(elaborate.Component, 1)); !equalMachines(x, want) || e != api.OK {
		t.Errorf("Machine = %v, %d", x, e)
	}
	want = api.Extended{Locations: 1}
	if x, e := elaborate.Machine(whole(), placeOf(elaborate.Requirement, 1)); !equalMachines(x, want) || e != api.OK {
		t.Errorf("Machine = %v, %d", x, e)
	}
	r := rand.New(rand.NewSource(1))
	for range 300 {
		m := drawModel(r)
		before := fmt.Sprint(m)
		for at, x := range instancesOf(m) {
			got, e := elaborate.Machine(m, at)
			if want := machineOf(m, x); !equalMachines(got, want) || e != api.OK || extended.Check(got) != api.OK {
				t.Fatalf("Machine of %v in %v = %v, %d, not %v", x, m, got, e, want)
			}
		}
		if fmt.Sprint(m) != before {
			t.Fatal("Machine changes the model")
		}
	}
}

// spoil changes all memory of an expression.
func spoil(x *expr) {
	for i := range x.Args {
		spoil(&x.Args[i])
		x.Args[i] = expr{Op: -1, Value: -1, Index: -1}
	}
}

// P1, P22.3: a machine shares nothing with the model.
func TestMachineSharesNothing(t *testing.T) {
	m := whole()
	for at := range instancesOf(m) {
		x, e := elaborate.Machine(m, at)
		if e != api.OK {
			t.Fatalf("Machine: %d", e)
		}
		for i := range x.Alphabet {
			x.Alphabet[i] = -1
		}
		for i := range x.Marked {
			x.Marked[i] = -1
		}
		for i := range x.Variables {
			x.Variables[i] = api.Variable{}
		}
		for i := range x.Moves {
			spoil(&x.Moves[i].Guard)
			for k := range x.Moves[i].Updates {
				spoil(&x.Moves[i].Updates[k].Value)
				x.Moves[i].Updates[k] = api.Update{Variable: -1}
			}
			x.Moves[i] = api.Move{From: -1}
		}
		if !elaborate.Equal(m, whole()) {
			t.Errorf("the machine of %v shares memory with the model", at)
		}
	}
}

// P22.5: Origins, and the error of flatten.Unfold.
func TestOrigins(t *testing.T) {
	l, e := elaborate.Origins(example(), placeOf(elaborate.Component, 1))
	if want := []state{at(0, 0), at(0, 1), at(0, 2)}; !slices.EqualFunc(l, want, extended.EqualStates) || e != api.OK {
		t.Errorf("Origins = %v, %d", l, e)
	}
	r := rand.New(rand.NewSource(2))
	errors := map[api.Errno]int{}
	for range 300 {
		m := drawModel(r)
		for at, x := range instancesOf(m) {
			_, want, wantError := flatten.Unfold(machineOf(m, x))
			l, e := elaborate.Origins(m, at)
			if !slices.EqualFunc(l, want, extended.EqualStates) || e != wantError {
				t.Errorf("Origins of %v in %v = %v, %d", x, m, l, e)
			}
			errors[e]++
		}
	}
	if errors[api.OK] < 100 || errors[api.ErrOverflow] < 30 || errors[api.ErrChoice] < 5 {
		t.Errorf("the errors are %v", errors)
	}
}

// P22.5: the text of a state.
func TestLabel(t *testing.T) {
	m := whole()
	before := fmt.Sprint(m)
	for i, c := range []struct {
		at   place
		s    state
		text string
		e    api.Errno
	}{
		{placeOf(elaborate.Component, 0), at(1), "busy", api.OK},
		{placeOf(elaborate.Component, 1), at(0, -2, 3), "broken low=-2 k=3", api.OK},
		{placeOf(elaborate.Component, 2), at(0, 2), "it n=2", api.OK},
		{placeOf(elaborate.Requirement, 0), at(2, 0, 0), "on low=0 k=0", api.OK},
		{placeOf(elaborate.Requirement, 1), at(0), "x", api.OK},
		{placeOf(elaborate.Requirement, 1), state{Values: ints{}}, "x", api.OK},
		{placeOf(elaborate.Component, 0), at(2, 5), "", api.ErrRange},
		{placeOf(elaborate.Component, 0), at(-1), "", api.ErrRange},
		{placeOf(elaborate.Component, 0), at(0, 0), "", api.ErrSize},
		{placeOf(elaborate.Component, 1), at(0, 7), "", api.ErrSize},
		{placeOf(elaborate.Component, 1), at(0, 0, 4), "", api.ErrRange},
		{placeOf(elaborate.Component, 1), at(0, 1, 3), "", api.ErrRange},
		{placeOf(elaborate.Component, 1), at(math.MaxInt, 0, 3), "", api.ErrRange},
	} {
		if text, e := elaborate.Label(m, c.at, c.s); text != c.text || e != c.e {
			t.Errorf("%d: Label = %q, %d", i, text, e)
		}
	}
	if fmt.Sprint(m) != before {
		t.Error("Label changes the model")
	}
	if text, e := elaborate.Label(example(), placeOf(elaborate.Component, 1), at(0, 2)); text != "it n=2" || e != api.OK {
		t.Errorf("the third example: %q, %d", text, e)
	}
}

// P22.6: a word is possible in the automaton of an instance exactly if it is in its machine, and leads to the state that this reaches.
func TestWordsOfInstances(t *testing.T) {
	r := rand.New(rand.NewSource(3))
	long := 0
	for range 300 {
		m := drawModel(r)
		c, _, e := elaborate.Cell(m)
		if e != api.OK {
			continue
		}
		for where, x := range instancesOf(m) {
			a := slices.Concat(c.Components, c.Requirements)[where.Index+(where.Kind-elaborate.Component)*len(c.Components)].Automaton
			origins, e1 := elaborate.Origins(m, where)
			machine, e2 := elaborate.Machine(m, where)
			if e1 != api.OK || e2 != api.OK || len(origins) != a.States {
				t.Fatalf("%v: %d, %d, %d origins", x, e1, e2, len(origins))
			}
			for range 10 {
				var w ints
				for range min(8, 9*len(a.Alphabet)) {
					w = append(w, a.Alphabet[r.Intn(len(a.Alphabet))])
				}
				end, done, e1 := automaton.Run(a, 0, w)
				want, steps, e2 := extended.Run(machine, w)
				if e1 != api.OK || e2 != api.OK || done != steps || !extended.EqualStates(origins[end], want) {
					t.Fatalf("%v: %v ends in %v after %d, and in %v after %d", x, w, origins[end], done, want, steps)
				}
				if done > 3 {
					long++
				}
			}
		}
	}
	if long < 100 {
		t.Errorf("only %d long runs", long)
	}
}

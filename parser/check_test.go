package parser_test

import (
	"math"
	"reflect"
	"slices"
	"strconv"
	"strings"
	"testing"

	"overseer/api"
	"overseer/expression"
	"overseer/parser"
)

// breakage breaks a valid model in a way that has an error.
type breakage struct {
	e      api.Errno
	damage func(m *model)
}

func machineOf(m *model) *api.Extended {
	return &m.Templates[0].Machine
}

func deep() expr {
	x := vari(0)
	for range 8 {
		x = op(api.OpNeg, x)
	}
	return x
}

// breakagesOfTemplates, breakagesOfMachines and breakagesOfOthers together are in the order of the errors of Check.
func breakagesOfTemplates() []breakage {
	return []breakage{
		{api.ErrName, func(m *model) { m.Name = "" }},
		{api.ErrName, func(m *model) { m.Events[0].Name = "1" }},
		{api.ErrDuplicate, func(m *model) { m.Events[2].Name = m.Events[1].Name }},
		{api.ErrConflict, func(m *model) { m.Events[3].Fault = 1 }},
		{api.ErrLimit, func(m *model) { m.Templates = append(m.Templates, make([]api.Template, 14)...) }},
		{api.ErrName, func(m *model) { m.Templates[0].Name = "a-b" }},
		{api.ErrName, func(m *model) { m.Templates[0].Events[0] = "" }},
		{api.ErrDuplicate, func(m *model) { m.Templates[0].Events[2] = m.Templates[0].Events[1] }},
		{api.ErrName, func(m *model) { m.Templates[0].Locations[0] = strings.Repeat("x", 33) }},
		{api.ErrDuplicate, func(m *model) { m.Templates[0].Locations[2] = m.Templates[0].Locations[1] }},
		{api.ErrForm, func(m *model) { machineOf(m).Alphabet = []int{0, 2, 1} }},
		{api.ErrSize, func(m *model) { machineOf(m).Locations = 2 }},
		{api.ErrRange, func(m *model) { machineOf(m).Initial = 3 }},
		{api.ErrOrder, func(m *model) { machineOf(m).Marked = []int{1, 1, 3} }},
		{api.ErrRange, func(m *model) { machineOf(m).Variables[0].High = 65537 }},
		{api.ErrOrder, func(m *model) { machineOf(m).Variables[1].Low = 3 }},
		{api.ErrName, func(m *model) { machineOf(m).Variables[2].Name = "true" }},
	}
}

func breakagesOfMachines() []breakage {
	return []breakage{
		{api.ErrRange, func(m *model) { machineOf(m).Moves[0].From = -1 }},
		{api.ErrRange, func(m *model) { machineOf(m).Moves[0].Event = 3 }},
		{api.ErrRange, func(m *model) { machineOf(m).Moves[0].To = 3 }},
		{api.ErrKind, func(m *model) { machineOf(m).Moves[0].Guard.Args[0].Op = 14 }},
		{api.ErrRange, func(m *model) { machineOf(m).Moves[0].Updates[0].Variable = 3 }},
		{api.ErrLimit, func(m *model) { machineOf(m).Moves[0].Updates[0].Value = deep() }},
		{api.ErrOrder, func(m *model) { machineOf(m).Moves[0].Updates[1].Variable = 0 }},
		{api.ErrType, func(m *model) { machineOf(m).Moves[0].Updates[1].Value = expression.True() }},
		{api.ErrRange, func(m *model) { machineOf(m).Moves[1].To = -1 }},
		{api.ErrType, func(m *model) { machineOf(m).Moves[1].Guard = num(0) }},
		{api.ErrRange, func(m *model) { machineOf(m).Moves[1].Updates[0].Variable = 3 }},
		{api.ErrSize, func(m *model) { machineOf(m).Moves[2].Guard.Args = nil }},
		{api.ErrDuplicate, func(m *model) { m.Templates[1].Name = m.Templates[0].Name }},
		{api.ErrForm, func(m *model) { m.Templates[1].Machine.Alphabet = []int{0} }},
		{api.ErrRange, func(m *model) { m.Templates[1].Machine.Initial = 1 }},
		{api.ErrName, func(m *model) { m.Templates[2].Name = "" }},
	}
}

func breakagesOfOthers() []breakage {
	return []breakage{
		{api.ErrName, func(m *model) { m.Components[0].Name = "?" }},
		{api.ErrName, func(m *model) { m.Components[0].Template = "" }},
		{api.ErrName, func(m *model) { m.Components[0].Events[2] = " " }},
		{api.ErrDuplicate, func(m *model) { m.Components[1].Name = m.Components[0].Name }},
		{api.ErrDuplicate, func(m *model) { m.Requirements[0].Name = m.Components[0].Name }},
		{api.ErrName, func(m *model) { m.Requirements[0].Events[1] = "é" }},
		{api.ErrName, func(m *model) { m.Requirements[1].Name = "" }},
		{api.ErrName, func(m *model) { m.Requirements[1].Template = "0" }},
		{api.ErrName, func(m *model) { m.Exclusions[0].Name = "" }},
		{api.ErrName, func(m *model) { m.Exclusions[0].Locals[0].Component = "" }},
		{api.ErrName, func(m *model) { m.Exclusions[0].Locals[2].Location = "a.b" }},
		{api.ErrDuplicate, func(m *model) { m.Exclusions[1].Name = m.Exclusions[0].Name }},
		{api.ErrEmpty, func(m *model) { m.Exclusions[1].Locals = nil }},
		{api.ErrName, func(m *model) { m.Constraints[0].Name = "" }},
		{api.ErrName, func(m *model) { m.Constraints[0].Terms[0].Component = "+" }},
		{api.ErrRange, func(m *model) { m.Constraints[0].Terms[1].Factor = -65537 }},
		{api.ErrRange, func(m *model) { m.Constraints[0].Bound = 65537 }},
		{api.ErrDuplicate, func(m *model) { m.Constraints[1].Name = m.Constraints[0].Name }},
		{api.ErrEmpty, func(m *model) { m.Constraints[1].Terms = nil }},
	}
}

func breakages() []breakage {
	return slices.Concat(breakagesOfTemplates(), breakagesOfMachines(), breakagesOfOthers())
}

// P17.1: each error, and of two errors the first one.
func TestErrorsOfCheck(t *testing.T) {
	if e := parser.Check(whole()); e != api.OK {
		t.Fatalf("Check: %d", e)
	}
	l := breakages()
	for i, first := range l {
		for k := i; k < len(l); k++ {
			m := whole()
			l[k].damage(&m)
			if k > i {
				first.damage(&m)
			}
			if e := parser.Check(m); e != first.e {
				t.Errorf("%d and %d: Check = %d, not %d", i, k, e, first.e)
			}
			if s, e := parser.Print(m); s != "" || e != first.e {
				t.Errorf("%d and %d: Print = %q, %d, not %d", i, k, s, e, first.e)
			}
		}
	}
}

// P17.1: what is valid, and what is not, by one field.
func TestCheck(t *testing.T) {
	for i, c := range []breakage{
		{api.OK, func(m *model) { *m = model{Name: "m"} }},
		{api.ErrName, func(m *model) { *m = model{} }},
		{api.OK, func(m *model) { m.Name = "true" }},
		{api.OK, func(m *model) { m.Events = nil }},
		{api.OK, func(m *model) { m.Components[0].Name = "false" }},
		{api.OK, func(m *model) { m.Exclusions[0].Name = "m1" }},
		{api.OK, func(m *model) { m.Templates[0].Name = "m1" }},
		{api.OK, func(m *model) { m.Components[0].Events = []string{"start", "start", "no_event"} }},
		{api.ErrRange, func(m *model) { m.Events[2].Fault = 5 }},
		{api.ErrRange, func(m *model) { m.Events[2].Fault = -1 }},
		{api.ErrForm, func(m *model) { machineOf(m).Alphabet = []int{0, 1} }},
		{api.ErrForm, func(m *model) { machineOf(m).Alphabet = []int{0, 1, 2, 3} }},
		{api.ErrForm, func(m *model) { machineOf(m).Alphabet = nil }},
		{api.ErrSize, func(m *model) { machineOf(m).Locations = 4 }},
		{api.ErrSize, func(m *model) { machineOf(m).Locations = -1 }},
		{api.ErrSize, func(m *model) { m.Templates[1].Machine.Locations = 1 }},
		{api.OK, func(m *model) { machineOf(m).Initial = 2 }},
		{api.ErrRange, func(m *model) { machineOf(m).Initial = -1 }},
		{api.ErrRange, func(m *model) { m.Templates[1].Machine.Initial = -1 }},
		{api.ErrRange, func(m *model) { machineOf(m).Marked = []int{0, 3} }},
		{api.ErrRange, func(m *model) { machineOf(m).Marked = []int{-1} }},
		{api.ErrRange, func(m *model) { m.Templates[1].Machine.Marked = []int{0} }},
		{api.OK, func(m *model) { machineOf(m).Marked = nil }},
		{api.ErrName, func(m *model) { machineOf(m).Variables[0].Name = "false" }},
		{api.ErrDuplicate, func(m *model) { machineOf(m).Variables[1].Name = "n" }},
		{api.OK, func(m *model) { machineOf(m).Variables[1].Name = "idle" }},
		{api.ErrRange, func(m *model) { machineOf(m).Moves[3].From = 3 }},
		{api.ErrRange, func(m *model) { machineOf(m).Moves[3].Event = -1 }},
		{api.ErrRange, func(m *model) { machineOf(m).Moves[0].Updates[1].Variable = -1 }},
		{api.ErrRange, func(m *model) { machineOf(m).Moves[0].Guard.Args[1].Index = 3 }},
		{api.ErrForm, func(m *model) { machineOf(m).Moves[0].Guard.Value = 1 }},
		{api.ErrType, func(m *model) { machineOf(m).Moves[0].Guard.Op = api.OpAdd }},
		{api.OK, func(m *model) { slices.Reverse(machineOf(m).Moves) }},
		{api.OK, func(m *model) { machineOf(m).Moves = slices.Repeat(machineOf(m).Moves, 300) }},
		{api.OK, func(m *model) { m.Constraints[0].Terms[0].Factor = 0 }},
		{api.ErrRange, func(m *model) { m.Constraints[0].Terms[0].Factor = math.MinInt }},
		{api.ErrRange, func(m *model) { m.Constraints[1].Bound = math.MaxInt }},
		{api.ErrRange, func(m *model) { m.Constraints[1].Bound = -65537 }},
	} {
		m := whole()
		c.damage(&m)
		if e := parser.Check(m); e != c.e {
			t.Errorf("%d: Check = %d, not %d", i, e, c.e)
		}
	}
}

// P17.1: how many there can be of each kind.
func TestLimitsOfCheck(t *testing.T) {
	name := func(i int) string { return "x" + strconv.Itoa(i) }
	events := func(m *model, n int) {
		for i := range n {
			m.Events = append(m.Events, api.Event{Name: name(i)})
		}
	}
	templates := func(m *model, n int) {
		for i := range n {
			m.Templates = append(m.Templates, api.Template{Name: name(i)})
		}
	}
	components := func(m *model, n int) {
		for i := range n {
			m.Components = append(m.Components, api.Instance{Name: "c" + name(i), Template: "t"})
		}
	}
	requirements := func(m *model, n int) {
		for i := range n {
			m.Requirements = append(m.Requirements, api.Instance{Name: name(i), Template: "t"})
		}
	}
	exclusions := func(m *model, n int) {
		for i := range n {
			m.Exclusions = append(m.Exclusions, api.NamedExclusion{Name: name(i), Locals: []api.NamedLocal{{Component: "c", Location: "l"}}})
		}
	}
	constraints := func(m *model, n int) {
		for i := range n {
			m.Constraints = append(m.Constraints, api.NamedConstraint{Name: name(i), Terms: []api.NamedTerm{{Component: "c"}}})
		}
	}
	if parser.MaxTemplates != 16 || parser.MaxInstances != 32 || parser.MaxNesting != 32 {
		t.Error("the limits")
	}
	most := model{Name: "m"}
	for _, c := range []struct {
		add   func(m *model, n int)
		limit int
	}{{events, 32}, {templates, 16}, {components, 32}, {requirements, 32}, {exclusions, 32}, {constraints, 32}} {
		c.add(&most, c.limit)
		if e := parser.Check(most); e != api.OK {
			t.Errorf("Check: %d", e)
		}
		m := model{Name: "m"}
		c.add(&m, c.limit+1)
		if e := parser.Check(m); e != api.ErrLimit {
			t.Errorf("Check: %d", e)
		}
	}
	if text, e := parser.Print(most); e != api.OK || !parser.Equal(mustParse(t, text), most) {
		t.Errorf("Print: %d", e)
	}
	many := model{Name: "m", Templates: []api.Template{{Name: "t"}}}
	for i := range 5000 {
		many.Templates[0].Locations = append(many.Templates[0].Locations, name(i))
		many.Templates[0].Events = append(many.Templates[0].Events, name(i))
		many.Templates[0].Machine.Alphabet = append(many.Templates[0].Machine.Alphabet, i)
	}
	many.Templates[0].Machine.Locations = 5000
	if e := parser.Check(many); e != api.OK {
		t.Errorf("Check of many locations and events: %d", e)
	}
}

// visit calls a function for each number, string, bool and slice in a value.
func visit(v reflect.Value, call func(v reflect.Value)) {
	switch v.Kind() {
	case reflect.Struct:
		for i := range v.NumField() {
			visit(v.Field(i), call)
		}
	case reflect.Slice:
		call(v)
		for i := range v.Len() {
			visit(v.Index(i), call)
		}
	default:
		call(v)
	}
}

// changes are all models that differ from one in one number, string or bool, or in the length of one slice.
func changes(source func() model) []model {
	fields := 0
	m := source()
	visit(reflect.ValueOf(&m).Elem(), func(reflect.Value) { fields++ })
	var l []model
	for i := range 2 * fields {
		m, at := source(), 0
		visit(reflect.ValueOf(&m).Elem(), func(v reflect.Value) {
			if at++; at != i/2+1 {
				return
			}
			switch v.Kind() {
			case reflect.Int:
				v.SetInt(v.Int() + int64(2*(i%2)-1))
			case reflect.String:
				v.SetString([]string{v.String() + "x", ""}[i%2])
			case reflect.Bool:
				v.SetBool(!v.Bool())
			case reflect.Slice:
				if i%2 == 0 || v.Len() == 0 {
					v.Set(reflect.Append(v, reflect.Zero(v.Type().Elem())))
				} else {
					v.Set(v.Slice(0, v.Len()-1))
				}
			}
		})
		l = append(l, m)
	}
	return l
}

// P17.1
func TestEqual(t *testing.T) {
	a, b := whole(), whole()
	if !parser.Equal(a, b) || !parser.Equal(model{}, model{}) {
		t.Error("Equal of equal ones")
	}
	l := changes(whole)
	if len(l) < 400 {
		t.Errorf("%d changes", len(l))
	}
	for _, m := range l {
		if parser.Equal(m, a) || parser.Equal(a, m) {
			t.Fatalf("Equal of %v and %v", a, m)
		}
	}
	empty := whole()
	visit(reflect.ValueOf(&empty).Elem(), func(v reflect.Value) {
		if v.Kind() == reflect.Slice && v.Len() == 0 {
			v.Set(reflect.MakeSlice(v.Type(), 0, 3))
		}
	})
	if reflect.DeepEqual(empty, a) || !parser.Equal(empty, a) || !parser.Equal(a, empty) {
		t.Error("Equal of nil and empty lists")
	}
	if e := parser.Check(empty); e != api.OK {
		t.Errorf("Check of empty lists: %d", e)
	}
}

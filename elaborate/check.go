package elaborate

import (
	"slices"

	"overseer/alphabet"
	"overseer/api"
	"overseer/extended"
	"overseer/named"
)

// Check returns the error of a model, and the item that has it.
func Check(m api.Model) (at Place, e api.Errno) {
	if e := named.CheckName(m.Name); e != api.OK {
		return Place{}, e
	}
	for _, check := range []func(m api.Model) (Place, api.Errno){checkEvents, checkTemplates, checkInstances, checkExclusions, checkConstraints} {
		if at, e := check(m); e != api.OK {
			return at, e
		}
	}
	return Place{}, api.OK
}

func checkEvents(m api.Model) (Place, api.Errno) {
	for i := range m.Events {
		if e := alphabet.Check(m.Events[:i+1]); e != api.OK {
			return Place{Event, i}, e
		}
	}
	return Place{}, api.OK
}

func checkTemplates(m api.Model) (Place, api.Errno) {
	if len(m.Templates) > MaxTemplates {
		return Place{Template, MaxTemplates}, api.ErrLimit
	}
	i, e := named.Check(m.Templates, nameOfTemplate, named.CheckName, func(_ int, x api.Template) api.Errno { return checkTemplate(x) })
	return Place{Template, i}, e
}

func checkTemplate(x api.Template) api.Errno {
	if len(x.Locations) != x.Machine.Locations {
		return api.ErrSize
	}
	for _, names := range [][]string{x.Locations, x.Events} {
		if e := named.CheckList(names, named.CheckName); e != api.OK {
			return e
		}
	}
	if !isNumbered(x.Machine.Alphabet, len(x.Events)) {
		return api.ErrForm
	}
	return extended.Check(x.Machine)
}

// isNumbered reports whether a list has the numbers 0 to n - 1, in order.
func isNumbered(l []int, n int) bool {
	for i, x := range l {
		if x != i {
			return false
		}
	}
	return len(l) == n
}

func checkInstances(m api.Model) (Place, api.Errno) {
	components := len(m.Components)
	switch {
	case components == 0:
		return Place{Component, 0}, api.ErrEmpty
	case components > api.MaxComponents:
		return Place{Component, api.MaxComponents}, api.ErrLimit
	case components+len(m.Requirements) > api.MaxAutomata:
		return Place{Requirement, api.MaxAutomata - components}, api.ErrLimit
	}
	right := instanceCheck(m)
	used := usedEvents(m)
	i, e := named.Check(slices.Concat(m.Components, m.Requirements), nameOfInstance, named.CheckName, func(i int, x api.Instance) api.Errno {
		if e := right(x); e != api.OK || i < components {
			return e
		}
		return checkUsed(x, used)
	})
	if i < components {
		return Place{Component, i}, e
	}
	return Place{Requirement, i - components}, e
}

// instanceCheck returns the function that checks the template and the events of an instance.
func instanceCheck(m api.Model) func(x api.Instance) api.Errno {
	events, templates := indexOf(m, Event), indexOf(m, Template)
	return func(x api.Instance) api.Errno {
		template, known := templates[x.Template]
		switch {
		case !known:
			return api.ErrUnknown
		case len(x.Events) != len(m.Templates[template].Events):
			return api.ErrSize
		}
		return named.CheckList(x.Events, events.CheckKnown)
	}
}

// usedEvents has the names of all events of components.
func usedEvents(m api.Model) named.Index {
	var names []string
	for _, x := range m.Components {
		names = append(names, x.Events...)
	}
	return named.IndexOf(names, func(name string) string { return name })
}

// checkUsed returns the error of a requirement with events that no component has.
func checkUsed(x api.Instance, used named.Index) api.Errno {
	for _, name := range x.Events {
		if e := used.CheckKnown(name); e != api.OK {
			return e
		}
	}
	return api.OK
}

func checkExclusions(m api.Model) (Place, api.Errno) {
	if len(m.Exclusions) > MaxConditions {
		return Place{Exclusion, MaxConditions}, api.ErrLimit
	}
	components := indexOf(m, Component)
	hasLocation := func(_ int, x api.NamedLocal) api.Errno {
		if !slices.Contains(templateOf(m, m.Components[components[x.Component]]).Locations, x.Location) {
			return api.ErrUnknown
		}
		return api.OK
	}
	i, e := named.Check(m.Exclusions, nameOfExclusion, named.CheckName, func(_ int, x api.NamedExclusion) api.Errno {
		return checkParts(x.Locals, componentOfLocal, components, hasLocation)
	})
	return Place{Exclusion, i}, e
}

// checkParts returns the error of the parts of a condition, of which there is at least one, each with another component.
func checkParts[T any](l []T, component func(x T) string, components named.Index, rest func(i int, x T) api.Errno) api.Errno {
	if len(l) == 0 {
		return api.ErrEmpty
	}
	_, e := named.Check(l, component, components.CheckKnown, rest)
	return e
}

func checkConstraints(m api.Model) (Place, api.Errno) {
	if len(m.Constraints) > MaxConditions {
		return Place{Constraint, MaxConditions}, api.ErrLimit
	}
	components := indexOf(m, Component)
	hasFactor := func(_ int, x api.NamedTerm) api.Errno {
		if x.Factor == 0 || !isValue(x.Factor) {
			return api.ErrRange
		}
		return api.OK
	}
	i, e := named.Check(m.Constraints, nameOfConstraint, named.CheckName, func(_ int, x api.NamedConstraint) api.Errno {
		if e := checkParts(x.Terms, componentOfTerm, components, hasFactor); e != api.OK {
			return e
		}
		if !isValue(x.Bound) {
			return api.ErrRange
		}
		return api.OK
	})
	return Place{Constraint, i}, e
}

func isValue(x int) bool {
	return -api.MaxValue <= x && x <= api.MaxValue
}

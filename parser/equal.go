package parser

import (
	"slices"

	"overseer/alphabet"
	"overseer/api"
	"overseer/expression"
)

// Equal reports whether all fields of two models are equal.
func Equal(a, b api.Model) bool {
	return a.Name == b.Name &&
		alphabet.Equal(a.Events, b.Events) &&
		slices.EqualFunc(a.Templates, b.Templates, equalTemplates) &&
		slices.EqualFunc(a.Components, b.Components, equalInstances) &&
		slices.EqualFunc(a.Requirements, b.Requirements, equalInstances) &&
		slices.EqualFunc(a.Exclusions, b.Exclusions, equalExclusions) &&
		slices.EqualFunc(a.Constraints, b.Constraints, equalConstraints)
}

func equalTemplates(a, b api.Template) bool {
	return a.Name == b.Name &&
		slices.Equal(a.Locations, b.Locations) &&
		slices.Equal(a.Events, b.Events) &&
		equalMachines(a.Machine, b.Machine)
}

func equalMachines(a, b api.Extended) bool {
	return slices.Equal(a.Alphabet, b.Alphabet) &&
		a.Locations == b.Locations &&
		a.Initial == b.Initial &&
		slices.Equal(a.Marked, b.Marked) &&
		slices.Equal(a.Variables, b.Variables) &&
		slices.EqualFunc(a.Moves, b.Moves, equalMoves)
}

func equalMoves(a, b api.Move) bool {
	return a.From == b.From &&
		a.Event == b.Event &&
		a.To == b.To &&
		expression.Equal(a.Guard, b.Guard) &&
		slices.EqualFunc(a.Updates, b.Updates, equalUpdates)
}

func equalUpdates(a, b api.Update) bool {
	return a.Variable == b.Variable && expression.Equal(a.Value, b.Value)
}

func equalInstances(a, b api.Instance) bool {
	return a.Name == b.Name && a.Template == b.Template && slices.Equal(a.Events, b.Events)
}

func equalExclusions(a, b api.NamedExclusion) bool {
	return a.Name == b.Name && slices.Equal(a.Locals, b.Locals)
}

func equalConstraints(a, b api.NamedConstraint) bool {
	return a.Name == b.Name && slices.Equal(a.Terms, b.Terms) && a.Bound == b.Bound
}

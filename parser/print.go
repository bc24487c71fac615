package parser

import (
	"strconv"

	"overseer/alphabet"
	"overseer/api"
	"overseer/expression"
)

// printer collects the texts of tokens.
type printer struct{ texts []string }

func (p *printer) put(texts ...string) {
	p.texts = append(p.texts, texts...)
}

// putIf puts a word that stands where something is true.
func (p *printer) putIf(is bool, word string) {
	if is {
		p.put(word)
	}
}

func (p *printer) putInteger(x int) {
	if x < 0 {
		p.put("-")
		x = -x
	}
	p.put(strconv.Itoa(x))
}

// putList puts items, each with a function that is given its index, with a separator between each two of them.
func (p *printer) putList(length int, separator string, item func(i int)) {
	for i := range length {
		p.putIf(i > 0, separator)
		item(i)
	}
}

// putNames puts names in parentheses.
func (p *printer) putNames(l []string) {
	p.put("(")
	p.putList(len(l), ",", func(i int) { p.put(l[i]) })
	p.put(")")
}

func (p *printer) printModel(m api.Model) {
	p.put("model", m.Name, ";")
	for _, x := range m.Events {
		p.printEvent(x)
	}
	for _, x := range m.Templates {
		p.printTemplate(x)
	}
	for _, x := range m.Components {
		p.printInstance("component", x)
	}
	for _, x := range m.Requirements {
		p.printInstance("requirement", x)
	}
	for _, x := range m.Exclusions {
		p.printExclusion(x)
	}
	for _, x := range m.Constraints {
		p.printConstraint(x)
	}
}

func (p *printer) printEvent(x api.Event) {
	p.put("event", x.Name)
	p.putIf(x.Controllable, "controllable")
	p.putIf(x.Observable, "observable")
	p.putIf(x.Forcible, "forcible")
	if x.Fault != 0 {
		p.put("fault")
		p.putInteger(x.Fault)
	}
	p.put(";")
}

func (p *printer) printInstance(word string, x api.Instance) {
	p.put(word, x.Name, "=", x.Template)
	p.putNames(x.Events)
	p.put(";")
}

func (p *printer) printExclusion(x api.NamedExclusion) {
	p.put("exclude", x.Name, ":")
	p.putList(len(x.Locals), ",", func(i int) { p.put(x.Locals[i].Component, x.Locals[i].Location) })
	p.put(";")
}

func (p *printer) printConstraint(x api.NamedConstraint) {
	p.put("limit", x.Name, ":")
	p.putList(len(x.Terms), "+", func(i int) {
		p.putInteger(x.Terms[i].Factor)
		p.put("*", x.Terms[i].Component)
	})
	p.put("<=")
	p.putInteger(x.Bound)
	p.put(";")
}

func (p *printer) printTemplate(t api.Template) {
	m := t.Machine
	p.put("template", t.Name)
	p.putNames(t.Events)
	p.put("{")
	for i, name := range t.Locations {
		p.put("location", name)
		p.putIf(i == m.Initial, "initial")
		p.putIf(alphabet.Contains(m.Marked, i), "marked")
		p.put(";")
	}
	var variables []string
	for _, v := range m.Variables {
		p.printVariable(v)
		variables = append(variables, v.Name)
	}
	for _, x := range m.Moves {
		p.put("edge", t.Locations[x.From], t.Events[x.Event], t.Locations[x.To])
		p.printEffect(x, variables)
		p.put(";")
	}
	p.put("}")
}

func (p *printer) printVariable(v api.Variable) {
	p.put("var", v.Name, ":")
	p.putInteger(v.Low)
	p.put("..")
	p.putInteger(v.High)
	p.put("=")
	p.putInteger(v.Initial)
	p.put(";")
}

// printEffect puts the guard and the updates of a move.
func (p *printer) printEffect(x api.Move, variables []string) {
	if truthOf(x.Guard) != "true" {
		p.put("when")
		p.printExpression(x.Guard, variables)
	}
	p.putIf(len(x.Updates) > 0, "do")
	p.putList(len(x.Updates), ",", func(i int) {
		p.put(variables[x.Updates[i].Variable], ":=")
		p.printExpression(x.Updates[i].Value, variables)
	})
}

// printExpression puts a right expression over some variables.
func (p *printer) printExpression(x api.Expr, variables []string) {
	truth := truthOf(x)
	switch {
	case truth != "":
		p.put(truth)
	case x.Op == api.OpConst:
		p.putInteger(x.Value)
	case x.Op == api.OpVar:
		p.put(variables[x.Index])
	default:
		p.printOperation(x, variables)
	}
}

func (p *printer) printOperation(x api.Expr, variables []string) {
	n := notations[x.Op]
	for i, argument := range x.Args {
		p.putIf(n.before[i] != "", n.before[i])
		if levelOf(argument) >= neededLevel(x, i) {
			p.printExpression(argument, variables)
			continue
		}
		p.put("(")
		p.printExpression(argument, variables)
		p.put(")")
	}
}

// truthOf returns the word for an expression that is True or False, and an empty text for any other one.
func truthOf(x api.Expr) string {
	switch {
	case expression.Equal(x, expression.True()):
		return "true"
	case expression.Equal(x, expression.False()):
		return "false"
	}
	return ""
}

// levelOf returns the level of an expression.
func levelOf(x api.Expr) int {
	switch {
	case x.Op == api.OpConst && x.Value < 0:
		return signLevel
	case x.Op == api.OpConst, x.Op == api.OpVar, truthOf(x) != "":
		return operandLevel
	}
	return notations[x.Op].level
}

// neededLevel returns the level that an argument of an expression must have to stand without parentheses.
func neededLevel(x api.Expr, argument int) int {
	if x.Op == api.OpNeg && x.Args[0].Op == api.OpConst && x.Args[0].Value >= 0 {
		return parenthesesLevel // otherwise the minus would belong to the constant
	}
	return notations[x.Op].needs[argument]
}

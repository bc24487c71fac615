package parser

import (
	"overseer/api"
	"overseer/expression"
	"overseer/lexer"
)

// modelReader reads models. After an error, what its functions return has no meaning.
type modelReader struct {
	*lexer.Reader
	model api.Model
	taken takenNames
}

// takenNames has the names that there are already in each list.
type takenNames struct{ events, templates, instances, exclusions, constraints names }

func newModelReader(s string) *modelReader {
	return &modelReader{Reader: lexer.New(s), taken: takenNames{names{}, names{}, names{}, names{}, names{}}}
}

func (r *modelReader) readModel() {
	r.Expect("model")
	r.model.Name = r.Name()
	r.Expect(";")
	r.readItems(map[string]func(){
		"event":       r.readEvent,
		"template":    r.readTemplate,
		"component":   func() { r.readInstance(&r.model.Components) },
		"requirement": func() { r.readInstance(&r.model.Requirements) },
		"exclude":     r.readExclusion,
		"limit":       r.readConstraint,
	}, func() bool { return r.Peek().Kind == lexer.End })
}

// readItems reads items, each with the function of its first word, up to an end.
func (r *modelReader) readItems(functions map[string]func(), isEnd func() bool) {
	for !isEnd() {
		read, is := functions[r.Peek().Text]
		if !is {
			r.Fail(api.ErrSyntax)
			return
		}
		read()
	}
}

// begin takes the first word of an item, if there are less than a limit of them.
func (r *modelReader) begin(number, limit int) {
	if number >= limit {
		r.Fail(api.ErrLimit)
	}
	r.Next()
}

// readNew takes a name that is none of those of a list, and adds it to them.
func (r *modelReader) readNew(l names) string {
	t := r.Peek()
	if _, taken := l[t.Text]; taken && t.Kind == lexer.Word {
		r.Fail(api.ErrDuplicate)
	}
	name := r.Name()
	l[name] = len(l)
	return name
}

// readKnown takes one of the names of a list, and returns its index.
func (r *modelReader) readKnown(l names) int {
	t := r.Peek()
	index, is := l[t.Text]
	if !is && t.Kind == lexer.Word {
		r.Fail(api.ErrUnknown)
	}
	r.Name()
	return index
}

// readInteger takes any integer that can stand in a text.
func (r *modelReader) readInteger() int {
	return r.Int(-api.MaxValue, api.MaxValue)
}

// readList takes parentheses with items between them, or with none.
func (r *modelReader) readList(item func()) {
	r.Expect("(")
	if !r.Is(")") {
		r.List(item)
	}
	r.Expect(")")
}

func (r *modelReader) readEvent() {
	r.Next()
	x := api.Event{Name: r.readNew(r.taken.events)}
	x.Controllable = r.Take("controllable")
	x.Observable = r.Take("observable")
	x.Forcible = r.Take("forcible")
	if r.Take("fault") {
		x.Fault = r.Int(1, api.MaxFaults)
	}
	r.Expect(";")
	r.model.Events = append(r.model.Events, x)
}

// readInstance reads a component or a requirement.
func (r *modelReader) readInstance(l *[]api.Instance) {
	r.begin(len(*l), MaxInstances)
	x := api.Instance{Name: r.readNew(r.taken.instances)}
	r.Expect("=")
	x.Template = r.Name()
	r.readList(func() { x.Events = append(x.Events, r.Name()) })
	r.Expect(";")
	*l = append(*l, x)
}

func (r *modelReader) readExclusion() {
	r.begin(len(r.model.Exclusions), MaxInstances)
	x := api.NamedExclusion{Name: r.readNew(r.taken.exclusions)}
	r.Expect(":")
	r.List(func() {
		x.Locals = append(x.Locals, api.NamedLocal{Component: r.Name(), Location: r.Name()})
	})
	r.Expect(";")
	r.model.Exclusions = append(r.model.Exclusions, x)
}

func (r *modelReader) readConstraint() {
	r.begin(len(r.model.Constraints), MaxInstances)
	x := api.NamedConstraint{Name: r.readNew(r.taken.constraints)}
	r.Expect(":")
	x.Terms = append(x.Terms, r.readTerm())
	for r.Take("+") {
		x.Terms = append(x.Terms, r.readTerm())
	}
	r.Expect("<=")
	x.Bound = r.readInteger()
	r.Expect(";")
	r.model.Constraints = append(r.model.Constraints, x)
}

func (r *modelReader) readTerm() api.NamedTerm {
	factor := r.readInteger()
	r.Expect("*")
	return api.NamedTerm{Component: r.Name(), Factor: factor}
}

// templateReader reads the items of a template.
type templateReader struct {
	*modelReader
	template                     api.Template
	events, locations, variables names
	initial                      bool // whether a location has the word initial
}

func (r *modelReader) readTemplate() {
	r.begin(len(r.model.Templates), MaxTemplates)
	t := templateReader{modelReader: r, events: names{}, locations: names{}, variables: names{}}
	t.template.Name = r.readNew(r.taken.templates)
	r.readList(func() { t.template.Events = append(t.template.Events, r.readNew(t.events)) })
	t.template.Machine.Alphabet = upTo(len(t.template.Events))
	r.Expect("{")
	r.readItems(map[string]func(){
		"location": t.readLocation,
		"var":      t.readVariable,
		"edge":     t.readMove,
	}, func() bool { return r.Take("}") })
	r.model.Templates = append(r.model.Templates, t.template)
}

func (t *templateReader) readLocation() {
	t.Next()
	m := &t.template.Machine
	location := m.Locations
	t.template.Locations = append(t.template.Locations, t.readNew(t.locations))
	m.Locations++
	if t.initial && t.Is("initial") {
		t.Fail(api.ErrDuplicate)
	}
	if t.Take("initial") {
		m.Initial, t.initial = location, true
	}
	if t.Take("marked") {
		m.Marked = append(m.Marked, location)
	}
	t.Expect(";")
}

func (t *templateReader) readVariable() {
	t.Next()
	if isTruth(t.Peek().Text) {
		t.Fail(api.ErrName)
	}
	v := api.Variable{Name: t.readNew(t.variables)}
	t.Expect(":")
	v.Low = t.readInteger()
	t.Expect("..")
	v.High = t.readInteger()
	t.Expect("=")
	v.Initial = t.readInteger()
	t.Expect(";")
	t.template.Machine.Variables = append(t.template.Machine.Variables, v)
}

func (t *templateReader) readMove() {
	t.Next()
	x := api.Move{From: t.readKnown(t.locations), Event: t.readKnown(t.events), To: t.readKnown(t.locations), Guard: expression.True()}
	if t.Take("when") {
		x.Guard = t.readExpression()
	}
	if t.Take("do") {
		t.List(func() { x.Updates = append(x.Updates, t.readUpdate()) })
	}
	t.Expect(";")
	t.template.Machine.Moves = append(t.template.Machine.Moves, x)
}

func (t *templateReader) readUpdate() api.Update {
	variable := t.readKnown(t.variables)
	t.Expect(":=")
	return api.Update{Variable: variable, Value: t.readExpression()}
}

// readExpression reads an expression over the variables that the template has so far.
func (t *templateReader) readExpression() api.Expr {
	r := expressionReader{Reader: t.Reader, variables: t.variables}
	return r.readExpression()
}

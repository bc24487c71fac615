package bdd_test

import (
	"math"
	"math/rand"
	"slices"
	"testing"

	"overseer/api"
	"overseer/bdd"
)

type (
	nodes = []bdd.Node
	ints  = []int
)

// assignments returns all assignments of some variables, in order.
func assignments(variables int) [][]bool {
	l := [][]bool{nil}
	for range variables {
		var longer [][]bool
		for _, bits := range l {
			longer = append(longer, append(slices.Clone(bits), false), append(slices.Clone(bits), true))
		}
		l = longer
	}
	return l
}

// tableOf returns the values of a function for all assignments.
func tableOf(variables int, value func(bits []bool) bool) []bool {
	var l []bool
	for _, bits := range assignments(variables) {
		l = append(l, value(bits))
	}
	return l
}

// diagramOf is the canonical diagram of a function with a table: a node is what a function is that depends on its first variable, and what such functions are is told apart by their tables.
func diagramOf(variables int, table []bool) bdd.Diagram {
	type key struct {
		variable int
		table    string
	}
	f := bdd.Diagram{Variables: variables}
	known := map[key]int{}
	var number func(variable int, table string) int
	number = func(variable int, table string) int {
		half := len(table) / 2
		switch {
		case half == 0:
			return int(table[0] - '0')
		case table[:half] == table[half:]:
			return number(variable+1, table[half:])
		}
		k := key{variable, table}
		if known[k] == 0 {
			n := bdd.Node{Variable: variable, Low: number(variable+1, table[:half]), High: number(variable+1, table[half:])}
			f.Nodes = append(f.Nodes, n)
			known[k] = len(f.Nodes) + 1
		}
		return known[k]
	}
	text := make([]byte, len(table))
	for i, value := range table {
		text[i] = '0'
		if value {
			text[i] = '1'
		}
	}
	f.Root = number(0, string(text))
	return f
}

// valueOf follows an assignment through the nodes.
func valueOf(f bdd.Diagram, bits []bool) bool {
	k := f.Root
	for k > 1 {
		n := f.Nodes[k-2]
		k = n.Low
		if bits[n.Variable] {
			k = n.High
		}
	}
	return k == 1
}

// draw draws a function of some variables: by its table, or simple ones.
func draw(r *rand.Rand, variables int) bdd.Diagram {
	few, block := 1+r.Intn(4), 1<<r.Intn(3)
	table := make([]bool, 1<<variables)
	for i := range table {
		table[i] = r.Intn(few) == 0
		if i%block > 0 {
			table[i] = table[i-1]
		}
	}
	if variables > 0 && r.Intn(4) == 0 {
		x, y := r.Intn(variables), r.Intn(variables)
		table = tableOf(variables, func(bits []bool) bool { return bits[x] != bits[y] || bits[y] && len(bits) > 3 && bits[3] })
	}
	return diagramOf(variables, table)
}

// equals reports an error and a diagram that are not as they should be.
func equals(t *testing.T, f bdd.Diagram, e api.Errno, want bdd.Diagram, what ...any) {
	t.Helper()
	if e != api.OK || !bdd.Equal(f, want) {
		t.Errorf("%v: %v, %d, not %v", what, f, e, want)
	}
}

// both is And of the variables 0 and 2 of three, the chapter's second example.
func both() bdd.Diagram {
	return bdd.Diagram{Variables: 3, Nodes: nodes{{2, 0, 1}, {0, 0, 2}}, Root: 3}
}

// literal is the variable i of some, and constant the function that always has a value.
func literal(variables, i int) bdd.Diagram {
	return bdd.Diagram{Variables: variables, Nodes: nodes{{i, 0, 1}}, Root: 2}
}

func constant(variables, number int) bdd.Diagram {
	return bdd.Diagram{Variables: variables, Root: number}
}

// errorOf is the error of a diagram, by the words of the chapter.
func errorOf(f bdd.Diagram) api.Errno {
	if f.Variables < 0 || f.Variables > bdd.MaxVariables {
		return api.ErrRange
	}
	if len(f.Nodes) > bdd.MaxNodes {
		return api.ErrLimit
	}
	for i, n := range f.Nodes {
		if n.Variable < 0 || n.Variable >= f.Variables || n.Low < 0 || n.High < 0 || n.Low > i+1 || n.High > i+1 {
			return api.ErrRange
		}
		if n.Low == n.High || slices.Contains(f.Nodes[:i], n) {
			return api.ErrForm
		}
		for _, k := range []int{n.Low, n.High} {
			if k > 1 && f.Nodes[k-2].Variable <= n.Variable {
				return api.ErrOrder
			}
		}
	}
	if f.Root < 0 || f.Root > len(f.Nodes)+1 {
		return api.ErrRange
	}
	var finished []int
	var goThrough func(k int)
	goThrough = func(k int) {
		if k > 1 && !slices.Contains(finished, k) {
			goThrough(f.Nodes[k-2].Low)
			goThrough(f.Nodes[k-2].High)
			finished = append(finished, k)
		}
	}
	goThrough(f.Root)
	for i := range f.Nodes {
		if i >= len(finished) || finished[i] != i+2 {
			return api.ErrForm
		}
	}
	return api.OK
}

// P10.1: diagrams in which something is changed.
func TestCheck(t *testing.T) {
	r := rand.New(rand.NewSource(1))
	counts := map[api.Errno]int{}
	for range 30000 {
		f := draw(r, r.Intn(5))
		if e := bdd.Check(f); e != api.OK {
			t.Errorf("Check(%v) = %d", f, e)
		}
		for range 1 + r.Intn(2) {
			change(r, &f)
		}
		want := errorOf(f)
		if e := bdd.Check(f); e != want {
			t.Errorf("Check(%v) = %d, not %d", f, e, want)
		}
		counts[want]++
	}
	for _, e := range []api.Errno{api.OK, api.ErrRange, api.ErrForm, api.ErrOrder} {
		if counts[e] < 500 {
			t.Errorf("only %d diagrams with the error %d", counts[e], e)
		}
	}
}

// change changes something in a diagram.
func change(r *rand.Rand, f *bdd.Diagram) {
	if len(f.Nodes) == 0 || r.Intn(8) == 0 {
		switch r.Intn(4) {
		case 0:
			f.Variables += r.Intn(3) - 1
		case 1:
			f.Nodes = append(f.Nodes, bdd.Node{Variable: r.Intn(3), Low: r.Intn(3), High: r.Intn(3)})
		default:
			f.Root = r.Intn(len(f.Nodes)+4) - 1
		}
		return
	}
	i, j := r.Intn(len(f.Nodes)), r.Intn(len(f.Nodes))
	switch r.Intn(6) {
	case 0:
		f.Nodes[i].Variable = r.Intn(f.Variables+2) - 1
	case 1:
		f.Nodes[i].Low = r.Intn(len(f.Nodes)+3) - 1
	case 2:
		f.Nodes[i].High = r.Intn(len(f.Nodes)+3) - 1
	case 3:
		f.Nodes[i] = f.Nodes[j]
	case 4:
		f.Nodes[i].Low, f.Nodes[i].High = f.Nodes[i].High, f.Nodes[i].Low
	default:
		f.Nodes[i], f.Nodes[j] = f.Nodes[j], f.Nodes[i]
	}
}

// P10.1: the chapter's examples, and one diagram for each error.
func TestExamplesOfCheck(t *testing.T) {
	max := math.MaxInt
	for i, c := range []struct {
		f bdd.Diagram
		e api.Errno
	}{
		{bdd.Diagram{}, api.OK},
		{bdd.Diagram{Root: 1}, api.OK},
		{bdd.Diagram{Variables: 2, Nodes: nodes{{1, 1, 0}, {1, 0, 1}, {0, 2, 3}}, Root: 4}, api.OK},
		{both(), api.OK},
		{literal(40, 39), api.OK},
		{bdd.Diagram{Variables: -1}, api.ErrRange},
		{bdd.Diagram{Variables: 41}, api.ErrRange},
		{bdd.Diagram{Variables: math.MinInt}, api.ErrRange},
		{bdd.Diagram{Variables: 41, Nodes: make(nodes, bdd.MaxNodes+1)}, api.ErrRange},
		{bdd.Diagram{Variables: 40, Nodes: make(nodes, bdd.MaxNodes+1)}, api.ErrLimit},
		{bdd.Diagram{Variables: 40, Nodes: make(nodes, bdd.MaxNodes)}, api.ErrForm},
		{literal(1, 1), api.ErrRange},
		{literal(1, -1), api.ErrRange},
		{literal(0, 0), api.ErrRange},
		{bdd.Diagram{Variables: 1, Nodes: nodes{{0, -1, 1}}, Root: 2}, api.ErrRange},
		{bdd.Diagram{Variables: 1, Nodes: nodes{{0, 0, -1}}, Root: 2}, api.ErrRange},
		{bdd.Diagram{Variables: 1, Nodes: nodes{{0, 2, 1}}, Root: 2}, api.ErrRange},
		{bdd.Diagram{Variables: 1, Nodes: nodes{{0, 0, 2}}, Root: 2}, api.ErrRange},
		{bdd.Diagram{Variables: 1, Nodes: nodes{{0, 2, 2}}, Root: 2}, api.ErrRange},
		{bdd.Diagram{Variables: 1, Nodes: nodes{{0, max, max}}, Root: 2}, api.ErrRange},
		{bdd.Diagram{Variables: 2, Nodes: nodes{{1, 0, 1}, {0, 0, 3}}, Root: 3}, api.ErrRange},
		{bdd.Diagram{Variables: 1, Nodes: nodes{{0, 1, 1}}, Root: 2}, api.ErrForm},
		{bdd.Diagram{Variables: 2, Nodes: nodes{{1, 0, 1}, {1, 0, 1}, {0, 2, 3}}, Root: 4}, api.ErrForm},
		{bdd.Diagram{Variables: 2, Nodes: nodes{{0, 0, 1}, {0, 0, 2}}, Root: 3}, api.ErrOrder},
		{bdd.Diagram{Variables: 2, Nodes: nodes{{0, 0, 1}, {1, 0, 2}}, Root: 3}, api.ErrOrder},
		{bdd.Diagram{Variables: 2, Nodes: nodes{{0, 0, 1}, {1, 2, 0}}, Root: 3}, api.ErrOrder},
		{bdd.Diagram{Variables: 2, Nodes: nodes{{0, 0, 1}, {1, 2, 2}}, Root: 9}, api.ErrForm},
		{bdd.Diagram{Variables: 2, Nodes: nodes{{0, 0, 1}, {1, 2, 0}, {5, 0, 0}}, Root: 9}, api.ErrOrder},
		{bdd.Diagram{Variables: 2, Nodes: nodes{{1, 0, 1}, {0, 0, 2}}, Root: 4}, api.ErrRange},
		{bdd.Diagram{Variables: 2, Root: 2}, api.ErrRange},
		{bdd.Diagram{Variables: 2, Root: -1}, api.ErrRange},
		{bdd.Diagram{Variables: 2, Root: max}, api.ErrRange},
		{bdd.Diagram{Variables: 2, Nodes: nodes{{1, 0, 1}, {0, 0, 2}}, Root: 2}, api.ErrForm},
		{bdd.Diagram{Variables: 2, Nodes: nodes{{1, 0, 1}, {0, 0, 2}}, Root: 1}, api.ErrForm},
		{bdd.Diagram{Variables: 2, Nodes: nodes{{1, 0, 1}, {0, 0, 1}}, Root: 3}, api.ErrForm},
		{bdd.Diagram{Variables: 2, Nodes: nodes{{1, 0, 1}, {1, 1, 0}, {0, 3, 2}}, Root: 4}, api.ErrForm},
		{bdd.Diagram{Variables: 2, Nodes: nodes{{1, 0, 1}, {1, 1, 0}, {0, 2, 3}}, Root: 4}, api.OK},
	} {
		if e := bdd.Check(c.f); e != c.e {
			t.Errorf("%d: Check = %d, not %d", i, e, c.e)
		}
	}
}

// P10.1
func TestEqual(t *testing.T) {
	for i, c := range []struct {
		f, g bdd.Diagram
		is   bool
	}{
		{both(), both(), true},
		{bdd.Diagram{}, bdd.Diagram{Nodes: nodes{}}, true},
		{bdd.Diagram{Variables: -3, Nodes: nodes{{-7, 8, 9}}, Root: -1}, bdd.Diagram{Variables: -3, Nodes: nodes{{-7, 8, 9}}, Root: -1}, true},
		{constant(2, 1), constant(3, 1), false},
		{constant(2, 1), constant(2, 0), false},
		{literal(2, 1), literal(2, 0), false},
		{literal(2, 1), bdd.Diagram{Variables: 2, Nodes: nodes{{1, 0, 1}, {1, 0, 1}}, Root: 2}, false},
		{literal(2, 1), bdd.Diagram{Variables: 2, Nodes: nodes{{1, 1, 0}}, Root: 2}, false},
	} {
		if bdd.Equal(c.f, c.g) != c.is || bdd.Equal(c.g, c.f) != c.is {
			t.Errorf("%d: Equal is not %t", i, c.is)
		}
	}
}

// P10.2
func TestConstantAndVariable(t *testing.T) {
	for n := range bdd.MaxVariables + 1 {
		no, e := bdd.Constant(n, false)
		equals(t, no, e, constant(n, 0))
		yes, e := bdd.Constant(n, true)
		equals(t, yes, e, constant(n, 1))
		for i := range n {
			f, e := bdd.Variable(n, i)
			equals(t, f, e, literal(n, i))
		}
	}
	for _, n := range []int{-1, bdd.MaxVariables + 1, math.MaxInt, math.MinInt} {
		for _, value := range []bool{false, true} {
			if f, e := bdd.Constant(n, value); e != api.ErrRange || !bdd.Equal(f, bdd.Diagram{}) {
				t.Errorf("Constant(%d, %t) = %v, %d", n, value, f, e)
			}
		}
	}
	for _, c := range [][2]int{{-1, 0}, {41, 0}, {0, 0}, {3, 3}, {3, -1}, {40, 40}, {40, math.MaxInt}, {40, math.MinInt}, {math.MaxInt, 1}} {
		if f, e := bdd.Variable(c[0], c[1]); e != api.ErrRange || !bdd.Equal(f, bdd.Diagram{}) {
			t.Errorf("Variable(%d, %d) = %v, %d", c[0], c[1], f, e)
		}
	}
}

// P10.2
func TestTables(t *testing.T) {
	r := rand.New(rand.NewSource(2))
	for i := range 600 {
		n := r.Intn(7)
		if i < 5 {
			n = bdd.MaxTable
		}
		f := draw(r, n)
		table := tableOf(n, func(bits []bool) bool { return valueOf(f, bits) })
		if values, e := bdd.Table(f); e != api.OK || !slices.Equal(values, table) {
			t.Errorf("Table(%v) = %v, %d, not %v", f, values, e, table)
		}
		g, e := bdd.FromTable(n, table)
		equals(t, g, e, f, "FromTable", table)
	}
	for i, c := range []struct {
		variables int
		values    []bool
		e         api.Errno
	}{
		{0, []bool{true}, api.OK},
		{1, []bool{false, true}, api.OK},
		{10, make([]bool, 1024), api.OK},
		{0, nil, api.ErrSize},
		{1, make([]bool, 1), api.ErrSize},
		{1, make([]bool, 3), api.ErrSize},
		{2, make([]bool, 5), api.ErrSize},
		{10, make([]bool, 1023), api.ErrSize},
		{11, make([]bool, 2048), api.ErrLimit},
		{11, nil, api.ErrLimit},
		{40, nil, api.ErrLimit},
		{41, nil, api.ErrRange},
		{-1, nil, api.ErrRange},
		{math.MaxInt, nil, api.ErrRange},
		{math.MinInt, []bool{true}, api.ErrRange},
	} {
		if f, e := bdd.FromTable(c.variables, c.values); e != c.e || e != api.OK && !bdd.Equal(f, bdd.Diagram{}) {
			t.Errorf("%d: FromTable = %v, %d", i, f, e)
		}
	}
	for i, c := range []struct {
		f      bdd.Diagram
		values int
		e      api.Errno
	}{
		{constant(0, 1), 1, api.OK},
		{literal(10, 3), 1024, api.OK},
		{literal(11, 3), 0, api.ErrLimit},
		{constant(40, 1), 0, api.ErrLimit},
		{constant(41, 1), 0, api.ErrRange},
		{literal(11, 11), 0, api.ErrRange},
	} {
		if values, e := bdd.Table(c.f); e != c.e || len(values) != c.values {
			t.Errorf("%d: Table: %d values, %d", i, len(values), e)
		}
	}
}

// pointwise returns the diagram of a function that is calculated for each assignment.
func pointwise(variables int, value func(bits []bool) bool) bdd.Diagram {
	return diagramOf(variables, tableOf(variables, value))
}

// P10.3
func TestOperations(t *testing.T) {
	r := rand.New(rand.NewSource(3))
	for range 1500 {
		n := r.Intn(7)
		f, g, h := draw(r, n), draw(r, n), draw(r, n)
		if r.Intn(4) == 0 {
			g = f
		}
		not, e := bdd.Not(f)
		equals(t, not, e, pointwise(n, func(b []bool) bool { return !valueOf(f, b) }), "Not", f)
		and, e := bdd.And(f, g)
		equals(t, and, e, pointwise(n, func(b []bool) bool { return valueOf(f, b) && valueOf(g, b) }), "And", f, g)
		or, e := bdd.Or(f, g)
		equals(t, or, e, pointwise(n, func(b []bool) bool { return valueOf(f, b) || valueOf(g, b) }), "Or", f, g)
		xor, e := bdd.Xor(f, g)
		equals(t, xor, e, pointwise(n, func(b []bool) bool { return valueOf(f, b) != valueOf(g, b) }), "Xor", f, g)
		ite, e := bdd.Ite(f, g, h)
		equals(t, ite, e, pointwise(n, func(b []bool) bool { return valueOf(f, b) && valueOf(g, b) || !valueOf(f, b) && valueOf(h, b) }), "Ite", f, g, h)
	}
}

// P10.3: all operations with constants, and the chapter's examples.
func TestExamplesOfOperations(t *testing.T) {
	x, _ := bdd.Variable(2, 0)
	y, _ := bdd.Variable(2, 1)
	different, _ := bdd.Xor(x, y)
	same, e := bdd.Not(different)
	equals(t, same, e, bdd.Diagram{Variables: 2, Nodes: nodes{{1, 1, 0}, {1, 0, 1}, {0, 2, 3}}, Root: 4})
	f, e := bdd.And(literal(3, 0), literal(3, 2))
	equals(t, f, e, both())
	for i := range 2 {
		for j := range 2 {
			p, q := constant(0, i), constant(0, j)
			and, _ := bdd.And(p, q)
			or, _ := bdd.Or(p, q)
			xor, _ := bdd.Xor(p, q)
			not, _ := bdd.Not(p)
			ite, _ := bdd.Ite(p, q, not)
			if and.Root != i&j || or.Root != i|j || xor.Root != i^j || not.Root != 1-i || ite.Root != i*j+(1-i) {
				t.Errorf("%d, %d: %v, %v, %v, %v, %v", i, j, and, or, xor, not, ite)
			}
		}
	}
}

// P10.4
func TestQuantifiers(t *testing.T) {
	r := rand.New(rand.NewSource(4))
	for range 1500 {
		n := 1 + r.Intn(6)
		f, variable, value := draw(r, n), r.Intn(n), r.Intn(2) == 0
		with := func(bits []bool, v int, value bool) []bool {
			bits = slices.Clone(bits)
			bits[v] = value
			return bits
		}
		g, e := bdd.Restrict(f, variable, value)
		equals(t, g, e, pointwise(n, func(b []bool) bool { return valueOf(f, with(b, variable, value)) }), "Restrict", f, variable, value)
		var set []int
		for v := range n {
			if r.Intn(2) == 0 {
				set = append(set, v)
			}
		}
		// some reports whether the function has a value for an assignment that differs in the set alone.
		some := func(bits []bool, value bool) bool {
			for _, other := range assignments(n) {
				agrees := valueOf(f, other) == value
				for v := range n {
					agrees = agrees && (other[v] == bits[v] || slices.Contains(set, v))
				}
				if agrees {
					return true
				}
			}
			return false
		}
		g, e = bdd.Exists(f, set)
		equals(t, g, e, pointwise(n, func(b []bool) bool { return some(b, true) }), "Exists", f, set)
		g, e = bdd.Forall(f, set)
		equals(t, g, e, pointwise(n, func(b []bool) bool { return !some(b, false) }), "Forall", f, set)
	}
}

// P10.4: the chapter's example, and errors.
func TestExamplesOfQuantifiers(t *testing.T) {
	f, e := bdd.Exists(both(), ints{2})
	equals(t, f, e, literal(3, 0))
	f, e = bdd.Forall(both(), ints{2})
	equals(t, f, e, constant(3, 0))
	f, e = bdd.Exists(both(), nil)
	equals(t, f, e, both())
	f, e = bdd.Restrict(both(), 1, true)
	equals(t, f, e, both())
	f, e = bdd.Restrict(both(), 2, true)
	equals(t, f, e, literal(3, 0))
	f, e = bdd.Restrict(both(), 0, false)
	equals(t, f, e, constant(3, 0))
	for i, c := range []struct {
		set []int
		e   api.Errno
	}{
		{ints{3}, api.ErrRange},
		{ints{-1}, api.ErrRange},
		{ints{1, 1}, api.ErrOrder},
		{ints{2, 0}, api.ErrOrder},
		{ints{2, 0, 3}, api.ErrOrder},
		{ints{0, math.MaxInt}, api.ErrRange},
	} {
		if f, e := bdd.Exists(both(), c.set); e != c.e || !bdd.Equal(f, bdd.Diagram{}) {
			t.Errorf("%d: Exists = %v, %d", i, f, e)
		}
		if f, e := bdd.Forall(both(), c.set); e != c.e || !bdd.Equal(f, bdd.Diagram{}) {
			t.Errorf("%d: Forall = %v, %d", i, f, e)
		}
	}
	for _, v := range []int{-1, 3, math.MaxInt, math.MinInt} {
		if f, e := bdd.Restrict(both(), v, true); e != api.ErrRange || !bdd.Equal(f, bdd.Diagram{}) {
			t.Errorf("Restrict(%d) = %v, %d", v, f, e)
		}
	}
}

// P10.5
func TestRename(t *testing.T) {
	r := rand.New(rand.NewSource(5))
	for range 800 {
		n, more := r.Intn(5), r.Intn(3)
		f := draw(r, n)
		to := r.Perm(n + more)[:n]
		slices.Sort(to)
		g, e := bdd.Rename(f, n+more, to)
		equals(t, g, e, pointwise(n+more, func(bits []bool) bool {
			var old []bool
			for _, v := range to {
				old = append(old, bits[v])
			}
			return valueOf(f, old)
		}), "Rename", f, n+more, to)
		if len(g.Nodes) != len(f.Nodes) {
			t.Errorf("Rename(%v) = %v", f, g)
		}
	}
	for i, c := range []struct {
		f         bdd.Diagram
		variables int
		to        []int
		e         api.Errno
	}{
		{both(), 40, ints{0, 38, 39}, api.OK},
		{constant(0, 1), 0, nil, api.OK},
		{constant(0, 1), 40, ints{}, api.OK},
		{both(), 41, nil, api.ErrRange},
		{both(), -1, nil, api.ErrRange},
		{both(), math.MaxInt, nil, api.ErrRange},
		{both(), 4, ints{0, 4}, api.ErrSize},
		{both(), 4, ints{3, 2, 1, 0}, api.ErrSize},
		{both(), 2, ints{0, 1, 2}, api.ErrRange},
		{both(), 4, ints{-1, 1, 2}, api.ErrRange},
		{both(), 4, ints{0, 0, 4}, api.ErrOrder},
		{both(), 4, ints{2, 1, 4}, api.ErrOrder},
		{both(), 4, ints{2, 4, 1}, api.ErrRange},
		{literal(3, 4), 41, nil, api.ErrRange},
		{bdd.Diagram{Variables: 2, Nodes: nodes{{0, 0, 1}, {1, 0, 2}}, Root: 3}, 41, nil, api.ErrOrder},
	} {
		if f, e := bdd.Rename(c.f, c.variables, c.to); e != c.e || e != api.OK && !bdd.Equal(f, bdd.Diagram{}) {
			t.Errorf("%d: Rename = %v, %d", i, f, e)
		}
	}
}

// P10.6
func TestAssignments(t *testing.T) {
	r := rand.New(rand.NewSource(6))
	for range 800 {
		n := r.Intn(7)
		f := draw(r, n)
		var want [][]bool
		for _, bits := range assignments(n) {
			value, e := bdd.Value(f, bits)
			if e != api.OK || value != valueOf(f, bits) {
				t.Errorf("Value(%v, %v) = %t, %d", f, bits, value, e)
			}
			if value {
				want = append(want, bits)
			}
		}
		if count, e := bdd.Count(f); e != api.OK || count != len(want) {
			t.Errorf("Count(%v) = %d, %d", f, count, e)
		}
		if l, e := bdd.All(f); e != api.OK || !slices.EqualFunc(l, want, slices.Equal[[]bool]) {
			t.Errorf("All(%v) = %v, %d", f, l, e)
		}
		bits, found, e := bdd.Any(f)
		if e != api.OK || found != (len(want) > 0) || found && !slices.Equal(bits, want[0]) || !found && len(bits) > 0 {
			t.Errorf("Any(%v) = %v, %t, %d", f, bits, found, e)
		}
		var support []int
		for v := range n {
			for _, bits := range assignments(n) {
				other := slices.Clone(bits)
				other[v] = !other[v]
				if valueOf(f, bits) != valueOf(f, other) {
					support = append(support, v)
					break
				}
			}
		}
		if set, e := bdd.Support(f); e != api.OK || !slices.Equal(set, support) {
			t.Errorf("Support(%v) = %v, %d, not %v", f, set, e, support)
		}
	}
}

// P10.6: the chapter's example, no variables, and as many assignments as there may be.
func TestExamplesOfAssignments(t *testing.T) {
	if set, e := bdd.Support(both()); e != api.OK || !slices.Equal(set, ints{0, 2}) {
		t.Errorf("Support = %v, %d", set, e)
	}
	for i, c := range []struct {
		f     bdd.Diagram
		count int
		any   []bool
		all   int
		e     api.Errno
	}{
		{both(), 2, []bool{true, false, true}, 2, api.OK},
		{constant(0, 1), 1, nil, 1, api.OK},
		{constant(0, 0), 0, nil, 0, api.OK},
		{constant(40, 0), 0, nil, 0, api.OK},
		{constant(40, 1), 1 << 40, make([]bool, 40), 0, api.ErrLimit},
		{constant(10, 1), 1024, make([]bool, 10), 1024, api.OK},
		{constant(11, 1), 2048, make([]bool, 11), 0, api.ErrLimit},
		{literal(11, 0), 1024, append([]bool{true}, make([]bool, 10)...), 1024, api.OK},
		{literal(40, 39), 1 << 39, append(make([]bool, 39), true), 0, api.ErrLimit},
		{bdd.Diagram{Variables: 11, Nodes: nodes{{10, 0, 1}, {9, 2, 1}, {8, 3, 1}, {7, 4, 1}, {6, 5, 1}, {5, 6, 1}, {4, 7, 1}, {3, 8, 1}, {2, 9, 1}, {1, 10, 1}, {0, 2, 11}}, Root: 12}, 1024 + 511, append(make([]bool, 10), true), 0, api.ErrLimit},
	} {
		count, e := bdd.Count(c.f)
		if e != api.OK || count != c.count {
			t.Errorf("%d: Count = %d, %d", i, count, e)
		}
		bits, found, e := bdd.Any(c.f)
		if e != api.OK || found != (c.count > 0) || !slices.Equal(bits, c.any) {
			t.Errorf("%d: Any = %v, %t, %d", i, bits, found, e)
		}
		if l, e := bdd.All(c.f); e != c.e || len(l) != c.all {
			t.Errorf("%d: All: %d, %d", i, len(l), e)
		}
	}
	// one is true for the first assignment alone, and for those with the variable 0.
	one := literal(11, 0)
	none := constant(11, 1)
	for v := range 11 {
		not, _ := bdd.Not(literal(11, v))
		none, _ = bdd.And(none, not)
	}
	one, _ = bdd.Or(one, none)
	if l, e := bdd.All(one); e != api.ErrLimit || len(l) > 0 {
		t.Errorf("All: %d, %d", len(l), e)
	}
	for _, n := range []int{0, 2, 4} {
		if value, e := bdd.Value(both(), make([]bool, n)); e != api.ErrSize || value {
			t.Errorf("Value of %d bits: %t, %d", n, value, e)
		}
	}
}

// P10.7
func TestConsequences(t *testing.T) {
	r := rand.New(rand.NewSource(7))
	two := func(op func(f, g bdd.Diagram) (bdd.Diagram, api.Errno)) func(f, g bdd.Diagram) bdd.Diagram {
		return func(f, g bdd.Diagram) bdd.Diagram {
			h, e := op(f, g)
			if e != api.OK || bdd.Check(h) != api.OK {
				t.Fatalf("%v and %v: %v, %d", f, g, h, e)
			}
			return h
		}
	}
	and, or, xor := two(bdd.And), two(bdd.Or), two(bdd.Xor)
	not := func(f bdd.Diagram) bdd.Diagram { return xor(f, constant(f.Variables, 1)) }
	same := func(what string, f, g bdd.Diagram) {
		t.Helper()
		if !bdd.Equal(f, g) {
			t.Errorf("%s: %v, %v", what, f, g)
		}
	}
	for range 200 {
		f, g, h := draw(r, 8), draw(r, 8), draw(r, 8)
		same("order", and(f, g), and(g, f))
		same("order", or(f, g), or(g, f))
		same("brackets", and(f, and(g, h)), and(and(f, g), h))
		same("brackets", or(f, or(g, h)), or(or(f, g), h))
		same("brackets", xor(f, xor(g, h)), xor(xor(f, g), h))
		same("distributes", and(f, or(g, h)), or(and(f, g), and(f, h)))
		same("distributes", or(f, and(g, h)), and(or(f, g), or(f, h)))
		same("absorbs", and(f, or(f, g)), f)
		same("De Morgan", not(and(f, g)), or(not(f), not(g)))
		same("complement", or(f, not(f)), constant(8, 1))
		same("complement", and(f, not(f)), constant(8, 0))
		same("xor", xor(f, g), or(and(f, not(g)), and(g, not(f))))
		negated, _ := bdd.Not(f)
		same("Not", negated, not(f))
		ite, _ := bdd.Ite(f, g, h)
		same("Ite", ite, or(and(f, g), and(not(f), h)))
		i := r.Intn(8)
		no, _ := bdd.Restrict(f, i, false)
		yes, _ := bdd.Restrict(f, i, true)
		back, _ := bdd.Ite(literal(8, i), yes, no)
		same("Shannon", back, f)
		exists, _ := bdd.Exists(f, ints{i})
		same("Exists", exists, or(yes, no))
		set := r.Perm(8)[:r.Intn(5)]
		step := f
		for _, v := range set {
			step, _ = bdd.Exists(step, ints{v})
		}
		slices.Sort(set)
		all, _ := bdd.Exists(f, set)
		same("one after another", step, all)
		forall, _ := bdd.Forall(not(f), set)
		same("dual", not(forall), all)
	}
}

// equality is the function that is true where the variables at some places are equal to those at others. If these are far from each other, it has many nodes: 3 times (2^n - 1) for n pairs.
func equality(t *testing.T, variables int, left, right []int) bdd.Diagram {
	f := constant(variables, 1)
	for i := range left {
		x, e := bdd.Xor(literal(variables, left[i]), literal(variables, right[i]))
		if e != api.OK {
			t.Fatal(e)
		}
		x, _ = bdd.Not(x)
		if f, e = bdd.And(f, x); e != api.OK {
			t.Fatal(e)
		}
	}
	if want := 3 * (1<<len(left) - 1); len(f.Nodes) != want {
		t.Fatalf("%d nodes, not %d", len(f.Nodes), want)
	}
	return f
}

// from returns n numbers from k on.
func from(k, n int) []int {
	var l []int
	for i := range n {
		l = append(l, k+i)
	}
	return l
}

// largest returns a diagram with as many nodes as there may be, which does not depend on the variable 0. None of its nodes is the negation of another one: more variables that are true never make it false.
func largest(t *testing.T) bdd.Diagram {
	f := constant(40, 0)
	for i := range 13 {
		x, e := bdd.And(literal(40, 3+i), literal(40, 16+i))
		if e != api.OK {
			t.Fatal(e)
		}
		if f, e = bdd.Or(f, x); e != api.OK {
			t.Fatal(e)
		}
	}
	for _, v := range []int{2, 1} {
		var e api.Errno
		if f, e = bdd.And(f, literal(40, v)); e != api.OK {
			t.Fatal(e)
		}
	}
	return f
}

// Results with as many nodes as there may be, and with one more.
func TestMostNodes(t *testing.T) {
	f := largest(t)
	if e := bdd.Check(f); e != api.OK || len(f.Nodes) != bdd.MaxNodes {
		t.Fatalf("Check: %d nodes, %d", len(f.Nodes), e)
	}
	x, one, none := literal(40, 0), constant(40, 1), constant(40, 0)
	not, e := bdd.Not(f)
	if e != api.OK || len(not.Nodes) != bdd.MaxNodes {
		t.Errorf("Not: %d nodes, %d", len(not.Nodes), e)
	}
	for i, c := range []struct {
		call func() (bdd.Diagram, api.Errno)
		want bdd.Diagram
		e    api.Errno
	}{
		{func() (bdd.Diagram, api.Errno) { return bdd.And(f, f) }, f, api.OK},
		{func() (bdd.Diagram, api.Errno) { return bdd.And(f, not) }, none, api.OK},
		{func() (bdd.Diagram, api.Errno) { return bdd.Or(not, f) }, one, api.OK},
		{func() (bdd.Diagram, api.Errno) { return bdd.Xor(f, one) }, not, api.OK},
		{func() (bdd.Diagram, api.Errno) { return bdd.Ite(x, f, f) }, f, api.OK},
		{func() (bdd.Diagram, api.Errno) { return bdd.Ite(not, none, one) }, f, api.OK},
		{func() (bdd.Diagram, api.Errno) { return bdd.Exists(f, ints{0}) }, f, api.OK},
		{func() (bdd.Diagram, api.Errno) { return bdd.Restrict(f, 0, true) }, f, api.OK},
		{func() (bdd.Diagram, api.Errno) { return bdd.Rename(f, 40, from(0, 40)) }, f, api.OK},
		{func() (bdd.Diagram, api.Errno) { return bdd.And(f, x) }, bdd.Diagram{}, api.ErrLimit},
		{func() (bdd.Diagram, api.Errno) { return bdd.Or(x, f) }, bdd.Diagram{}, api.ErrLimit},
		{func() (bdd.Diagram, api.Errno) { return bdd.Xor(x, f) }, bdd.Diagram{}, api.ErrLimit},
		{func() (bdd.Diagram, api.Errno) { return bdd.Ite(x, f, one) }, bdd.Diagram{}, api.ErrLimit},
		{func() (bdd.Diagram, api.Errno) { return bdd.Ite(x, f, not) }, bdd.Diagram{}, api.ErrLimit},
	} {
		if g, e := c.call(); e != c.e || !bdd.Equal(g, c.want) {
			t.Errorf("%d: %d nodes, %d", i, len(g.Nodes), e)
		}
	}
	more := bdd.Diagram{Variables: 40, Nodes: append(slices.Clone(f.Nodes), bdd.Node{Variable: 0, Low: 0, High: f.Root}), Root: f.Root + 1}
	if e := bdd.Check(more); e != api.ErrLimit {
		t.Errorf("Check: %d", e)
	}
}

// Quantifiers and operations whose results have too many nodes, or a few but many on the way.
func TestManyNodesOnTheWay(t *testing.T) {
	left, right := equality(t, 40, from(2, 7), from(16, 7)), equality(t, 40, from(9, 7), from(23, 7))
	notLeft, _ := bdd.Not(left)
	notRight, _ := bdd.Not(right)
	first, second := literal(40, 0), literal(40, 1)
	upper, _ := bdd.Ite(second, notLeft, notRight)
	lower, _ := bdd.Ite(second, left, right)
	either, e := bdd.Ite(first, upper, lower)
	if e != api.OK {
		t.Fatal(e)
	}
	for i, c := range []struct {
		call func() (bdd.Diagram, api.Errno)
		want bdd.Diagram
		e    api.Errno
	}{
		{func() (bdd.Diagram, api.Errno) { return bdd.And(left, right) }, bdd.Diagram{}, api.ErrLimit},
		{func() (bdd.Diagram, api.Errno) { return bdd.Exists(upper, ints{1}) }, bdd.Diagram{}, api.ErrLimit},
		{func() (bdd.Diagram, api.Errno) { return bdd.Forall(lower, ints{1}) }, bdd.Diagram{}, api.ErrLimit},
		{func() (bdd.Diagram, api.Errno) { return bdd.Exists(either, ints{0, 1}) }, constant(40, 1), api.OK},
		{func() (bdd.Diagram, api.Errno) { return bdd.Forall(either, ints{0, 1}) }, constant(40, 0), api.OK},
		{func() (bdd.Diagram, api.Errno) { return bdd.Ite(left, right, notRight) }, bdd.Diagram{}, api.ErrLimit},
	} {
		if g, e := c.call(); e != c.e || !bdd.Equal(g, c.want) {
			t.Errorf("%d: %d nodes, %d", i, len(g.Nodes), e)
		}
	}
}

// Diagrams with a few nodes, in which there are many ways.
func TestManyWays(t *testing.T) {
	all, half := constant(40, 0), constant(40, 1)
	for v := range 40 {
		all, _ = bdd.Xor(all, literal(40, v))
		if v%2 == 0 {
			half, _ = bdd.Xor(half, literal(40, v))
		}
	}
	both, e := bdd.And(all, half)
	if count, _ := bdd.Count(both); e != api.OK || count != 1<<38 || len(both.Nodes) != 153 {
		t.Errorf("And: %d assignments, %d nodes, %d", count, len(both.Nodes), e)
	}
	choice, e := bdd.Ite(all, half, literal(40, 39))
	if count, _ := bdd.Count(choice); e != api.OK || count != 1<<39 || len(choice.Nodes) > 200 {
		t.Errorf("Ite: %d assignments, %d nodes, %d", count, len(choice.Nodes), e)
	}
	if f, e := bdd.Exists(both, from(1, 38)); e != api.OK || !bdd.Equal(f, constant(40, 1)) {
		t.Errorf("Exists = %v, %d", f, e)
	}
	if bits, found, e := bdd.Any(both); e != api.OK || !found || !slices.Equal(bits, append(make([]bool, 39), true)) {
		t.Errorf("Any = %v, %t, %d", bits, found, e)
	}
}

// P1: the error of the first diagram that has one, then that of their numbers of variables, before all others.
func TestErrors(t *testing.T) {
	good, other := both(), literal(2, 0)
	form := bdd.Diagram{Variables: 3, Nodes: nodes{{2, 0, 1}}}
	order := bdd.Diagram{Variables: 3, Nodes: nodes{{0, 0, 1}, {0, 0, 2}}, Root: 3}
	span := bdd.Diagram{Variables: 41}
	limit := bdd.Diagram{Nodes: make(nodes, bdd.MaxNodes+1)}
	for i, c := range []struct {
		l []bdd.Diagram
		e api.Errno
	}{
		{[]bdd.Diagram{form, order, span}, api.ErrForm},
		{[]bdd.Diagram{order, form, limit}, api.ErrOrder},
		{[]bdd.Diagram{limit, span, form}, api.ErrLimit},
		{[]bdd.Diagram{span, limit, form}, api.ErrRange},
		{[]bdd.Diagram{good, order, limit}, api.ErrOrder},
		{[]bdd.Diagram{good, limit, span}, api.ErrLimit},
		{[]bdd.Diagram{good, other, order}, api.ErrOrder},
		{[]bdd.Diagram{good, good, form}, api.ErrForm},
		{[]bdd.Diagram{good, other, good}, api.ErrSize},
		{[]bdd.Diagram{other, good, good}, api.ErrSize},
		{[]bdd.Diagram{good, good, other}, api.ErrSize},
		{[]bdd.Diagram{constant(0, 0), constant(0, 1), constant(1, 0)}, api.ErrSize},
	} {
		if f, e := bdd.Ite(c.l[0], c.l[1], c.l[2]); e != c.e || !bdd.Equal(f, bdd.Diagram{}) {
			t.Errorf("%d: Ite = %v, %d", i, f, e)
		}
		want := firstError(bdd.Check(c.l[0]), bdd.Check(c.l[1]))
		if want == api.OK && c.l[0].Variables != c.l[1].Variables {
			want = api.ErrSize
		}
		for k, call := range []func(f, g bdd.Diagram) (bdd.Diagram, api.Errno){bdd.And, bdd.Or, bdd.Xor} {
			if f, e := call(c.l[0], c.l[1]); e != want || e != api.OK && !bdd.Equal(f, bdd.Diagram{}) {
				t.Errorf("%d: %d: %v, %d", i, k, f, e)
			}
		}
		if e := bdd.Check(c.l[0]); e != api.OK {
			calls(t, c.l[0], e)
		}
	}
}

func firstError(l ...api.Errno) api.Errno {
	for _, e := range l {
		if e != api.OK {
			return e
		}
	}
	return api.OK
}

// calls calls all functions with one diagram that has an error, and with other arguments that are wrong too.
func calls(t *testing.T, f bdd.Diagram, want api.Errno) {
	for i, call := range []func() (bdd.Diagram, api.Errno){
		func() (bdd.Diagram, api.Errno) { return bdd.Not(f) },
		func() (bdd.Diagram, api.Errno) { return bdd.Restrict(f, -1, true) },
		func() (bdd.Diagram, api.Errno) { return bdd.Exists(f, ints{-1}) },
		func() (bdd.Diagram, api.Errno) { return bdd.Forall(f, ints{-1}) },
		func() (bdd.Diagram, api.Errno) { return bdd.Rename(f, -1, nil) },
	} {
		if g, e := call(); e != want || !bdd.Equal(g, bdd.Diagram{}) {
			t.Errorf("%v: %d: %v, %d", f, i, g, e)
		}
	}
	if l, e := bdd.Table(f); e != want || len(l) > 0 {
		t.Errorf("Table(%v) = %v, %d", f, l, e)
	}
	if value, e := bdd.Value(f, make([]bool, 99)); e != want || value {
		t.Errorf("Value(%v) = %t, %d", f, value, e)
	}
	if n, e := bdd.Count(f); e != want || n != 0 {
		t.Errorf("Count(%v) = %d, %d", f, n, e)
	}
	if bits, found, e := bdd.Any(f); e != want || found || len(bits) > 0 {
		t.Errorf("Any(%v) = %v, %t, %d", f, bits, found, e)
	}
	if l, e := bdd.All(f); e != want || len(l) > 0 {
		t.Errorf("All(%v) = %v, %d", f, l, e)
	}
	if l, e := bdd.Support(f); e != want || len(l) > 0 {
		t.Errorf("Support(%v) = %v, %d", f, l, e)
	}
}

// Neither arguments are changed, nor do results share memory with them or with each other.
func TestArgumentsAreKept(t *testing.T) {
	f, g, set, to, bits := both(), literal(3, 0), ints{1}, ints{0, 1, 2}, []bool{true, false, true}
	table := tableOf(3, func(bits []bool) bool { return valueOf(f, bits) })
	for range 2 {
		for _, call := range []func() (bdd.Diagram, api.Errno){
			func() (bdd.Diagram, api.Errno) { return bdd.Not(f) },
			func() (bdd.Diagram, api.Errno) { return bdd.And(f, g) },
			func() (bdd.Diagram, api.Errno) { return bdd.Or(f, f) },
			func() (bdd.Diagram, api.Errno) { return bdd.Xor(g, f) },
			func() (bdd.Diagram, api.Errno) { return bdd.Ite(g, f, f) },
			func() (bdd.Diagram, api.Errno) { return bdd.Restrict(f, 1, true) },
			func() (bdd.Diagram, api.Errno) { return bdd.Exists(f, set) },
			func() (bdd.Diagram, api.Errno) { return bdd.Forall(f, set) },
			func() (bdd.Diagram, api.Errno) { return bdd.Rename(f, 3, to) },
			func() (bdd.Diagram, api.Errno) { return bdd.FromTable(3, table) },
		} {
			h, e := call()
			if e != api.OK {
				t.Fatal(e)
			}
			for i := range h.Nodes {
				h.Nodes[i] = bdd.Node{Variable: -7}
			}
		}
		bdd.Value(f, bits)
		l, _ := bdd.All(f)
		for i := range l[0] {
			l[0][i] = !l[0][i]
		}
		if !slices.Equal(l[1], []bool{true, true, true}) {
			t.Errorf("All = %v", l)
		}
	}
	if !bdd.Equal(f, both()) || !bdd.Equal(g, literal(3, 0)) || !slices.Equal(set, ints{1}) || !slices.Equal(to, ints{0, 1, 2}) || !slices.Equal(bits, []bool{true, false, true}) {
		t.Errorf("changed: %v, %v, %v, %v, %v", f, g, set, to, bits)
	}
}

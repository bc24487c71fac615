package guard

import (
	"slices"
	"strconv"
	"strings"

	"overseer/api"
	"overseer/expression"
)

// checkBoxes returns the first error of functions of boxes.
func checkBoxes(l []api.Variable, boxes []Box) api.Errno {
	if e := checkDomain(l); e != api.OK {
		return e
	}
	for _, box := range boxes {
		if e := checkBox(l, box); e != api.OK {
			return e
		}
	}
	return api.OK
}

func checkBox(l []api.Variable, box Box) api.Errno {
	if len(box.Low) != len(l) || len(box.High) != len(l) {
		return api.ErrSize
	}
	for i, v := range l {
		if box.Low[i] < v.Low || box.High[i] > v.High || box.Low[i] > box.High[i] {
			return api.ErrRange
		}
	}
	return api.OK
}

// literals returns the comparisons that are true for the values that a box contains.
func literals(l []api.Variable, box Box) []api.Expr {
	var found []api.Expr
	add := func(op int, x, y api.Expr) { found = append(found, api.Expr{Op: op, Args: []api.Expr{x, y}}) }
	for i, v := range l {
		low, high := box.Low[i], box.High[i]
		variable := api.Expr{Op: api.OpVar, Index: i}
		switch {
		case low == v.Low && high == v.High:
		case low == high:
			add(api.OpEq, variable, constant(low))
		default:
			if low != v.Low {
				add(api.OpLe, constant(low), variable)
			}
			if high != v.High {
				add(api.OpLe, variable, constant(high))
			}
		}
	}
	return found
}

func constant(value int) api.Expr {
	return api.Expr{Op: api.OpConst, Value: value}
}

// Expr returns the guard of boxes.
func Expr(l []api.Variable, boxes []Box) (api.Expr, api.Errno) {
	if e := checkBoxes(l, boxes); e != api.OK {
		return api.Expr{}, e
	}
	return guardOf(l, boxes)
}

// guardOf does what Expr does, for right boxes.
func guardOf(l []api.Variable, boxes []Box) (api.Expr, api.Errno) {
	if len(boxes) > expression.MaxNodes { // each of them is at least one expression, so it need not be made
		return api.Expr{}, api.ErrLimit
	}
	var guards []api.Expr
	for _, box := range boxes {
		guards = append(guards, join(api.OpAnd, literals(l, box), expression.True))
	}
	x := join(api.OpOr, guards, expression.False)
	if _, e := expression.Check(x, len(l)); e != api.OK {
		return api.Expr{}, e
	}
	return x, api.OK
}

// join joins expressions in two halves, so that it has few levels; of none, it is what a function returns.
func join(op int, l []api.Expr, none func() api.Expr) api.Expr {
	switch len(l) {
	case 0:
		return none()
	case 1:
		return l[0]
	}
	half := len(l) / 2
	return api.Expr{Op: op, Args: []api.Expr{join(op, l[:half], none), join(op, l[half:], none)}}
}

// Text returns the text of boxes.
func Text(l []api.Variable, boxes []Box) (string, api.Errno) {
	if e := checkBoxes(l, boxes); e != api.OK {
		return "", e
	}
	var b strings.Builder
	for i, box := range boxes {
		if i > 0 {
			b.WriteString(" or ")
		}
		writeBox(&b, l, box)
	}
	if len(boxes) == 0 {
		b.WriteString("false")
	}
	return b.String(), api.OK
}

func writeBox(b *strings.Builder, l []api.Variable, box Box) {
	found := literals(l, box)
	for i, x := range found {
		if i > 0 {
			b.WriteString(" and ")
		}
		writeLiteral(b, l, x)
	}
	if len(found) == 0 {
		b.WriteString("true")
	}
}

func writeLiteral(b *strings.Builder, l []api.Variable, x api.Expr) {
	b.WriteString(sideText(l, x.Args[0]))
	if x.Op == api.OpEq {
		b.WriteString(" = ")
	} else {
		b.WriteString(" <= ")
	}
	b.WriteString(sideText(l, x.Args[1]))
}

// sideText returns the text of a side of a literal.
func sideText(l []api.Variable, x api.Expr) string {
	if x.Op == api.OpVar {
		return l[x.Index].Name
	}
	return strconv.Itoa(x.Value)
}

// Literals returns the number of literals of boxes.
func Literals(l []api.Variable, boxes []Box) (int, api.Errno) {
	if e := checkBoxes(l, boxes); e != api.OK {
		return 0, e
	}
	n := 0
	for _, box := range boxes {
		n += len(literals(l, box))
	}
	return n, api.OK
}

// Holds reports whether a box contains some values.
func Holds(l []api.Variable, boxes []Box, values []int) (bool, api.Errno) {
	if e := checkBoxes(l, boxes); e != api.OK {
		return false, e
	}
	if !expression.Within(l, values) {
		return false, api.ErrRange
	}
	return slices.ContainsFunc(boxes, func(box Box) bool { return contains(box, values) }), api.OK
}

// contains reports whether a box contains some values.
func contains(box Box, values []int) bool {
	for i, value := range values {
		if value < box.Low[i] || value > box.High[i] {
			return false
		}
	}
	return true
}

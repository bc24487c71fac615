package parser

import (
	"overseer/api"
	"overseer/expression"
	"overseer/lexer"
)

// names are different names, each with its index in a list.
type names map[string]int

// expressionReader reads expressions over some variables. After an error, what its functions return has no meaning.
type expressionReader struct {
	*lexer.Reader
	variables names
	nesting   int // the parentheses and signs in whose operands the next token stands
}

// readExpression, and the functions after it, read an expression of a level.
func (r *expressionReader) readExpression() api.Expr {
	condition := r.readOr()
	if !r.Take("?") {
		return condition
	}
	second := r.readExpression()
	r.Expect(":")
	return apply(api.OpIte, condition, second, r.readExpression())
}

func (r *expressionReader) readOr() api.Expr {
	return r.readChain(orLevel, r.readAnd)
}

func (r *expressionReader) readAnd() api.Expr {
	return r.readChain(andLevel, r.readComparison)
}

func (r *expressionReader) readComparison() api.Expr {
	x := r.readSum()
	if op, is := r.takeOperation(comparisonLevel); is {
		return apply(op, x, r.readSum())
	}
	switch {
	case r.Take(">"):
		return apply(api.OpLt, r.readSum(), x)
	case r.Take(">="):
		return apply(api.OpLe, r.readSum(), x)
	}
	return x
}

func (r *expressionReader) readSum() api.Expr {
	return r.readChain(sumLevel, r.readProduct)
}

func (r *expressionReader) readProduct() api.Expr {
	return r.readChain(productLevel, r.readSign)
}

func (r *expressionReader) readSign() api.Expr {
	if x, is := r.readAfter("!", r.readSign); is {
		return apply(api.OpNot, x)
	}
	if x, is := r.readAfter("-", r.readNegative); is {
		return x
	}
	return r.readOperand()
}

// readNegative reads what stands after a minus.
func (r *expressionReader) readNegative() api.Expr {
	if r.Peek().Kind == lexer.Number {
		return constant(-r.Next().Value)
	}
	return apply(api.OpNeg, r.readSign())
}

func (r *expressionReader) readOperand() api.Expr {
	if x, is := r.readAfter("(", r.readExpression); is {
		r.Expect(")")
		return x
	}
	t := r.Peek()
	index, isVariable := r.variables[t.Text]
	switch {
	case t.Kind == lexer.Number:
		r.Next()
		return constant(t.Value)
	case r.Take("true"):
		return expression.True()
	case r.Take("false"):
		return expression.False()
	case t.Kind == lexer.Word && !isVariable:
		r.Fail(api.ErrUnknown)
	}
	r.Name()
	return api.Expr{Op: api.OpVar, Index: index}
}

// readChain reads operands with operations of a level between them, from the left.
func (r *expressionReader) readChain(level int, readOperand func() api.Expr) api.Expr {
	x := readOperand()
	for {
		op, is := r.takeOperation(level)
		if !is {
			return x
		}
		x = apply(op, x, readOperand())
	}
}

// takeOperation takes the symbol between the arguments of an operation of a level, if it is the next token.
func (r *expressionReader) takeOperation(level int) (op int, is bool) {
	for op, n := range notations {
		if n.level == level && r.Take(n.before[1]) {
			return op, true
		}
	}
	return 0, false
}

// readAfter takes a symbol, if it is the next token, and reads the operand that it nests.
func (r *expressionReader) readAfter(symbol string, readOperand func() api.Expr) (x api.Expr, is bool) {
	if !r.Is(symbol) {
		return api.Expr{}, false
	}
	if r.nesting == MaxNesting {
		r.Fail(api.ErrLimit)
	}
	r.Next()
	r.nesting++
	x = readOperand()
	r.nesting--
	return x, true
}

package parser

import "overseer/api"

// The levels of expressions: what binds more tightly has a greater one.
const (
	choiceLevel      = 0
	orLevel          = 1
	andLevel         = 2
	comparisonLevel  = 3
	sumLevel         = 4
	productLevel     = 5
	signLevel        = 6
	operandLevel     = 7
	parenthesesLevel = 8 // needed where even an operand stands in parentheses
)

// maxArguments is the greatest number of arguments of an Op.
const maxArguments = 3

// notation says how an expression is written: the level, the symbol before each of its arguments (if there is one), and the level that each of them needs.
type notation struct {
	level  int
	before [maxArguments]string
	needs  [maxArguments]int
}

// notations has those of all Ops that have arguments.
var notations = [...]notation{
	api.OpAdd: {sumLevel, [maxArguments]string{"", "+"}, [maxArguments]int{sumLevel, productLevel}},
	api.OpSub: {sumLevel, [maxArguments]string{"", "-"}, [maxArguments]int{sumLevel, productLevel}},
	api.OpMul: {productLevel, [maxArguments]string{"", "*"}, [maxArguments]int{productLevel, signLevel}},
	api.OpNeg: {signLevel, [maxArguments]string{"-"}, [maxArguments]int{signLevel}},
	api.OpEq:  {comparisonLevel, [maxArguments]string{"", "=="}, [maxArguments]int{sumLevel, sumLevel}},
	api.OpNe:  {comparisonLevel, [maxArguments]string{"", "!="}, [maxArguments]int{sumLevel, sumLevel}},
	api.OpLt:  {comparisonLevel, [maxArguments]string{"", "<"}, [maxArguments]int{sumLevel, sumLevel}},
	api.OpLe:  {comparisonLevel, [maxArguments]string{"", "<="}, [maxArguments]int{sumLevel, sumLevel}},
	api.OpNot: {signLevel, [maxArguments]string{"!"}, [maxArguments]int{signLevel}},
	api.OpAnd: {andLevel, [maxArguments]string{"", "&&"}, [maxArguments]int{andLevel, comparisonLevel}},
	api.OpOr:  {orLevel, [maxArguments]string{"", "||"}, [maxArguments]int{orLevel, andLevel}},
	api.OpIte: {choiceLevel, [maxArguments]string{"", "?", ":"}, [maxArguments]int{orLevel, choiceLevel, choiceLevel}},
}

// constant returns the expression of an integer, and apply that of an operation.
func constant(value int) api.Expr {
	return api.Expr{Op: api.OpConst, Value: value}
}

func apply(op int, arguments ...api.Expr) api.Expr {
	return api.Expr{Op: op, Args: arguments}
}

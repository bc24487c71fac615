package moves_test

import (
	"testing"

	"overseer/api"
	"overseer/expression"
	"overseer/moves"
)

func number(value int) api.Expr {
	return api.Expr{Value: value}
}

func variable(index int) api.Expr {
	return api.Expr{Op: api.OpVar, Index: index}
}

// P17.1, P18.1: guards.
func TestCheckGuard(t *testing.T) {
	for i, c := range []struct {
		x api.Expr
		n int
		e api.Errno
	}{
		{expression.True(), 0, api.OK},
		{api.Expr{Op: api.OpLt, Args: []api.Expr{variable(1), number(3)}}, 2, api.OK},
		{api.Expr{Op: api.OpLt, Args: []api.Expr{variable(1), number(3)}}, 1, api.ErrRange},
		{number(1), 0, api.ErrType},
		{api.Expr{Op: api.OpNot, Args: []api.Expr{number(1)}}, 0, api.ErrType},
		{api.Expr{Op: 99}, 0, api.ErrKind},
		{expression.True(), 17, api.ErrRange},
	} {
		if e := moves.CheckGuard(c.x, c.n); e != c.e {
			t.Errorf("%d: CheckGuard = %d, not %d", i, e, c.e)
		}
	}
}

// P17.1, P18.1: updates, and their first error.
func TestCheckUpdates(t *testing.T) {
	good, wrong := number(1), expression.True()
	for i, c := range []struct {
		l []api.Update
		e api.Errno
	}{
		{nil, api.OK},
		{[]api.Update{{Variable: 0, Value: variable(2)}, {Variable: 2, Value: good}}, api.OK},
		{[]api.Update{{Variable: -1, Value: wrong}}, api.ErrRange},
		{[]api.Update{{Variable: 3, Value: wrong}}, api.ErrRange},
		{[]api.Update{{Variable: 1, Value: good}, {Variable: 1, Value: wrong}}, api.ErrOrder},
		{[]api.Update{{Variable: 1, Value: good}, {Variable: 0, Value: wrong}}, api.ErrOrder},
		{[]api.Update{{Variable: 1, Value: good}, {Variable: 3, Value: wrong}}, api.ErrRange},
		{[]api.Update{{Variable: 1, Value: wrong}, {Variable: 1, Value: good}}, api.ErrType},
		{[]api.Update{{Variable: 0, Value: variable(3)}, {Variable: 9}}, api.ErrRange},
		{[]api.Update{{Variable: 0, Value: api.Expr{Op: 14}}, {Variable: 9}}, api.ErrKind},
	} {
		if e := moves.CheckUpdates(c.l, 3); e != c.e {
			t.Errorf("%d: CheckUpdates = %d, not %d", i, e, c.e)
		}
	}
}

package moves_test

import (
	"reflect"
	"testing"

	"overseer/api"
	"overseer/expression"
	"overseer/moves"
)

func number(value int) api.Expr {
	return api.Expr{Value: value}
}

func variable(index int) api.Expr {
	return api.Expr{Op: api.OpVar, Index: index}
}

// P17.1, P18.1: guards.
func TestCheckGuard(t *testing.T) {
	for i, c := range []struct {
		x api.Expr
		n int
		e api.Errno
	}{
		{expression.True(), 0, api.OK},
		{api.Expr{Op: api.OpLt, Args: []api.Expr{variable(1), number(3)}}, 2, api.OK},
		{api.Expr{Op: api.OpLt, Args: []api.Expr{variable(1), number(3)}}, 1, api.ErrRange},
		{number(1), 0, api.ErrType},
		{api.Expr{Op: api.OpNot, Args: []api.Expr{number(1)}}, 0, api.ErrType},
		{api.Expr{Op: 99}, 0, api.ErrKind},
		{expression.True(), 17, api.ErrRange},
	} {
		if e := moves.CheckGuard(c.x, c.n); e != c.e {
			t.Errorf("%d: CheckGuard = %d, not %d", i, e, c.e)
		}
	}
}

// P17.1, P18.1: updates, and their first error.
func TestCheckUpdates(t *testing.T) {
	good, wrong := number(1), expression.True()
	for i, c := range []struct {
		l []api.Update
		e api.Errno
	}{
		{nil, api.OK},
		{[]api.Update{{Variable: 0, Value: variable(2)}, {Variable: 2, Value: good}}, api.OK},
		{[]api.Update{{Variable: -1, Value: wrong}}, api.ErrRange},
		{[]api.Update{{Variable: 3, Value: wrong}}, api.ErrRange},
		{[]api.Update{{Variable: 1, Value: good}, {Variable: 1, Value: wrong}}, api.ErrOrder},
		{[]api.Update{{Variable: 1, Value: good}, {Variable: 0, Value: wrong}}, api.ErrOrder},
		{[]api.Update{{Variable: 1, Value: good}, {Variable: 3, Value: wrong}}, api.ErrRange},
		{[]api.Update{{Variable: 1, Value: wrong}, {Variable: 1, Value: good}}, api.ErrType},
		{[]api.Update{{Variable: 0, Value: variable(3)}, {Variable: 9}}, api.ErrRange},
		{[]api.Update{{Variable: 0, Value: api.Expr{Op: 14}}, {Variable: 9}}, api.ErrKind},
	} {
		if e := moves.CheckUpdates(c.l, 3); e != c.e {
			t.Errorf("%d: CheckUpdates = %d, not %d", i, e, c.e)
		}
	}
}

// P18.3, P19.3: the move that an event makes, and its errors.
func TestChoose(t *testing.T) {
	yes, no := expression.True(), expression.False()
	below := api.Expr{Op: api.OpLt, Args: []api.Expr{variable(0), number(2)}}
	large := api.Expr{Op: api.OpMul, Args: []api.Expr{number(1 << 16), number(1 << 15)}}
	over := api.Expr{Op: api.OpLt, Args: []api.Expr{large, number(0)}}
	l := []api.Move{
		{From: 0, Event: 1, To: 10, Guard: over},
		{From: 1, Event: 0, To: 11, Guard: no},
		{From: 1, Event: 0, To: 12, Guard: below},
		{From: 1, Event: 2, To: 13, Guard: yes},
		{From: 1, Event: 2, To: 14, Guard: below},
		{From: 1, Event: 2, To: 15, Guard: no},
		{From: 1, Event: 3, To: 16, Guard: yes},
		{From: 1, Event: 3, To: 17, Guard: yes},
		{From: 1, Event: 3, To: 18, Guard: over},
		{From: 2, Event: 1, To: 19, Guard: yes},
	}
	for i, c := range []struct {
		location, event, value, to int
		possible                   bool
		e                          api.Errno
	}{
		{0, 1, 0, 0, false, api.ErrOverflow},
		{0, 0, 0, 0, false, api.OK},
		{0, 2, 0, 0, false, api.OK},
		{1, 0, 1, 12, true, api.OK},
		{1, 0, 2, 0, false, api.OK},
		{1, 1, 0, 0, false, api.OK},
		{1, 2, 1, 0, false, api.ErrChoice},
		{1, 2, 2, 13, true, api.OK},
		{1, 3, 0, 0, false, api.ErrOverflow},
		{2, 1, 0, 19, true, api.OK},
		{2, 2, 0, 0, false, api.OK},
		{3, 1, 0, 0, false, api.OK},
	} {
		x, possible, e := moves.Choose(l, c.location, c.event, []int{c.value})
		if x.To != c.to || possible != c.possible || e != c.e {
			t.Errorf("%d: Choose = %v, %v, %d", i, x, possible, e)
		}
	}
	if _, possible, e := moves.Choose(nil, 0, 0, nil); possible || e != api.OK {
		t.Errorf("Choose of no moves: %v, %d", possible, e)
	}
	for i, x := range l {
		for k, y := range l {
			if n := moves.Compare(x, y); i == k && n != 0 || i < k && n > 0 || i > k && n < 0 || (n == 0) != (x.From == y.From && x.Event == y.Event) {
				t.Errorf("Compare of %d and %d = %d", i, k, n)
			}
		}
	}
}

// P22.3: a copy of a move is the same move, in other memory.
func TestCopy(t *testing.T) {
	made := func() api.Move {
		guard := api.Expr{Op: api.OpNot, Args: []api.Expr{{Op: api.OpLt, Args: []api.Expr{variable(1), number(3)}}}}
		value := api.Expr{Op: api.OpNeg, Args: []api.Expr{variable(0)}}
		return api.Move{From: 3, Event: 2, To: 1, Guard: guard, Updates: []api.Update{{Variable: 1, Value: value}, {Variable: 2, Value: number(4)}}}
	}
	x := made()
	y := moves.Copy(x)
	if !reflect.DeepEqual(x, y) {
		t.Errorf("Copy = %v", y)
	}
	y.Guard.Args[0].Args[1] = number(5)
	y.Guard.Args[0] = number(5)
	y.Updates[0].Value.Args[0] = number(5)
	y.Updates[1] = api.Update{}
	if !reflect.DeepEqual(x, made()) {
		t.Errorf("the copy shares memory with %v", x)
	}
	if y := moves.Copy(api.Move{}); !reflect.DeepEqual(y, api.Move{}) {
		t.Errorf("Copy of nothing = %v", y)
	}
}

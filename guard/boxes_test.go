package guard_test

import (
	"math"
	"math/rand"
	"reflect"
	"slices"
	"strconv"
	"strings"
	"testing"

	"overseer/api"
	"overseer/expression"
	"overseer/guard"
)

func inBox(b guard.Box, values ints) bool {
	for i, value := range values {
		if value < b.Low[i] || value > b.High[i] {
			return false
		}
	}
	return true
}

// coverOf is the cover, by the words of the chapter: every question is answered by going through the domain.
func coverOf(l []api.Variable, all []ints, table, care bools) boxes {
	some := func(is func(i int) bool) int {
		for i := range all {
			if is(i) {
				return i
			}
		}
		return -1
	}
	needed := func(i int) bool { return care[i] && table[i] }
	bad := func(b guard.Box) bool {
		return some(func(i int) bool { return care[i] && !table[i] && inBox(b, all[i]) }) >= 0
	}
	inOne := func(l boxes, i int) bool {
		return slices.ContainsFunc(l, func(b guard.Box) bool { return inBox(b, all[i]) })
	}
	var cover boxes
	for {
		next := some(func(i int) bool { return needed(i) && !inOne(cover, i) })
		if next < 0 {
			break
		}
		b := guard.Box{Low: slices.Clone(all[next]), High: slices.Clone(all[next])}
		for i, v := range l {
			for b.Low[i]--; b.Low[i] >= v.Low && !bad(b); b.Low[i]-- {
			}
			b.Low[i]++
			for b.High[i]++; b.High[i] <= v.High && !bad(b); b.High[i]++ {
			}
			b.High[i]--
		}
		cover = append(cover, b)
	}
	for i := 0; i < len(cover); {
		others := slices.Delete(slices.Clone(cover), i, i+1)
		if some(func(k int) bool { return needed(k) && inBox(cover[i], all[k]) && !inOne(others, k) }) < 0 {
			cover = others
		} else {
			i++
		}
	}
	return cover
}

func sameBoxes(a, b boxes) bool {
	return slices.EqualFunc(a, b, func(x, y guard.Box) bool { return slices.Equal(x.Low, y.Low) && slices.Equal(x.High, y.High) })
}

// P15.2, and what P15.7 says of covers.
func TestBoxes(t *testing.T) {
	r := rand.New(rand.NewSource(4))
	several, thinned := 0, 0
	for range 3000 {
		l := drawVariables(r, 4, 4)
		all := domain(t, l)
		table, care := drawBools(r, len(all)), drawBools(r, len(all))
		if r.Intn(3) == 0 {
			care = repeated(true, len(all))
		}
		if r.Intn(3) == 0 {
			table, _ = tableOf(l, drawExpr(r, l, expression.Bool, 4))
		}
		want := coverOf(l, all, table, care)
		got, e := guard.Boxes(l, table, care)
		if e != api.OK || !sameBoxes(got, want) {
			t.Fatalf("Boxes(%v, %v, %v) = %v, %d, not %v", l, table, care, got, e, want)
		}
		if len(got) > 2 {
			several++
		}
		for i, values := range all {
			holds, e := guard.Holds(l, got, values)
			if e != api.OK || care[i] && holds != table[i] {
				t.Fatalf("Holds(%v, %v) = %v, %d", got, values, holds, e)
			}
		}
		for i, b := range got {
			alone := func(i int) bool {
				for k, c := range got {
					if k != i && inBox(c, b.Low) && inBox(c, b.High) {
						return false
					}
				}
				return true
			}
			if !alone(i) {
				t.Fatalf("%v contains its box %d", got, i)
			}
		}
		if grown := withoutThinning(l, all, table, care); len(grown) > len(got) {
			thinned++
		}
	}
	if several < 300 || thinned < 30 {
		t.Errorf("%d with several boxes, %d from which one was left out", several, thinned)
	}
}

// withoutThinning are the boxes before any is left out: what is grown for each element that lies in none, alone with what is forbidden.
func withoutThinning(l []api.Variable, all []ints, table, care bools) boxes {
	var grown boxes
	for i, values := range all {
		if !care[i] || !table[i] || slices.ContainsFunc(grown, func(b guard.Box) bool { return inBox(b, values) }) {
			continue
		}
		alone := slices.Clone(care)
		for k := range alone {
			alone[k] = care[k] && !table[k] || k == i
		}
		grown = append(grown, coverOf(l, all, table, alone)...)
	}
	return grown
}

// flags are the bools of a text of 0 and 1.
func flags(text string) bools {
	var l bools
	for _, b := range text {
		l = append(l, b == '1')
	}
	return l
}

// P15.2: the order of growing, and which box is left out.
func TestGrowing(t *testing.T) {
	for i, c := range []struct {
		l           []api.Variable
		table, care string
		want        boxes
	}{
		{nil, "1", "1", boxes{{}}},
		{nil, "1", "0", nil},
		{nil, "0", "1", nil},
		{ranges(3), "1111", "0000", nil},
		{ranges(3), "0000", "1111", nil},
		{ranges(3), "0100", "1111", boxes{{ints{1}, ints{1}}}},
		{ranges(3), "0100", "0100", boxes{{ints{0}, ints{3}}}},
		{ranges(3), "0100", "1100", boxes{{ints{1}, ints{3}}}},
		{ranges(3), "0100", "0110", boxes{{ints{0}, ints{1}}}},
		{ranges(4), "11011", "11111", boxes{{ints{0}, ints{1}}, {ints{3}, ints{4}}}},
		{ranges(4), "11011", "11011", boxes{{ints{0}, ints{4}}}},
		// The first variable grows first.
		{ranges(1, 1), "0101", "0111", boxes{{ints{0, 1}, ints{1, 1}}}},
		{ranges(1, 1), "1110", "1111", boxes{{ints{0, 0}, ints{1, 0}}, {ints{0, 0}, ints{0, 1}}}},
		{ranges(1, 1), "1001", "1001", boxes{{ints{0, 0}, ints{1, 1}}}},
		{ranges(1, 1), "1001", "1111", boxes{{ints{0, 0}, ints{0, 0}}, {ints{1, 1}, ints{1, 1}}}},
		// Low grows before High does in the same variable, and does not come back after the next one has grown.
		{ranges(2, 1), "001001", "001001", boxes{{ints{0, 0}, ints{2, 1}}}},
		{ranges(2, 1), "000100", "100100", boxes{{ints{0, 1}, ints{2, 1}}}},
		{ranges(2, 1), "100101", "110111", boxes{{ints{0, 0}, ints{1, 0}}, {ints{1, 1}, ints{2, 1}}}},
		// The first box, v1 = 1, becomes superfluous by the two that are grown after it.
		{ranges(2, 2), "011111110", "111111111", boxes{{ints{0, 1}, ints{1, 2}}, {ints{1, 0}, ints{2, 1}}}},
	} {
		if got, e := guard.Boxes(c.l, flags(c.table), flags(c.care)); e != api.OK || !sameBoxes(got, c.want) {
			t.Errorf("%d: Boxes = %v, %d, not %v", i, got, e, c.want)
		}
	}
}

// P15.2: the errors in their order.
func TestErrorsOfBoxes(t *testing.T) {
	for i, c := range []struct {
		table, care int
		e           api.Errno
	}{{8, 8, api.OK}, {7, 8, api.ErrSize}, {9, 8, api.ErrSize}, {8, 7, api.ErrSize}, {8, 9, api.ErrSize}, {0, 0, api.ErrSize}, {0, 8, api.ErrSize}, {8, 0, api.ErrSize}, {4, 4, api.ErrSize}} {
		if b, e := guard.Boxes(example(), repeated(true, c.table), repeated(true, c.care)); e != c.e || len(b) > 0 != (e == api.OK) {
			t.Errorf("%d: Boxes = %v, %d, not %d", i, b, e, c.e)
		}
	}
	for want, lists := range badVariables() {
		for _, l := range lists {
			if b, e := guard.Boxes(l, nil, nil); b != nil || e != want {
				t.Errorf("Boxes = %v, %d, not %d", b, e, want)
			}
		}
	}
}

// P15.2: the largest domains.
func TestLargeDomains(t *testing.T) {
	parity, random := bools{}, bools{}
	r := rand.New(rand.NewSource(5))
	for i := range 4096 {
		odd := false
		for k := i; k > 0; k &= k - 1 {
			odd = !odd
		}
		parity, random = append(parity, odd), append(random, r.Intn(2) == 0)
	}
	all := repeated(true, 4096)
	for _, l := range [][]api.Variable{bits(12), ranges(63, 63), ranges(4095), ranges(1, 2047), ranges(2047, 1), ranges(15, 15, 15)} {
		for _, table := range []bools{parity, random, all, repeated(false, 4096)} {
			b, e := guard.Boxes(l, table, all)
			if e != api.OK {
				t.Fatal(e)
			}
			for i, values := range domain(t, l) {
				if slices.ContainsFunc(b, func(b guard.Box) bool { return inBox(b, values) }) != table[i] {
					t.Fatalf("wrong boxes for %v", values)
				}
			}
		}
	}
	if b, e := guard.Boxes(bits(12), parity, all); len(b) != 2048 || e != api.OK {
		t.Errorf("Boxes has %d, %d", len(b), e)
	}
	if x, e := guard.Simplify(bits(12), expression.True(), expression.True()); !reflect.DeepEqual(x, expression.True()) || e != api.OK {
		t.Errorf("Simplify = %v, %d", x, e)
	}
}

// drawBoxes draws right boxes, of which many have bounds of the variables.
func drawBoxes(r *rand.Rand, l []api.Variable, n int) boxes {
	var b boxes
	for range n {
		var box guard.Box
		for _, v := range l {
			low := v.Low + r.Intn(v.High-v.Low+1)
			high := low + r.Intn(v.High-low+1)
			if r.Intn(2) == 0 {
				low = v.Low
			}
			if r.Intn(2) == 0 {
				high = v.High
			}
			box.Low, box.High = append(box.Low, low), append(box.High, high)
		}
		b = append(b, box)
	}
	return b
}

// described are the texts of the literals of boxes, and the guards of these, by the words of the chapter.
func described(l []api.Variable, b boxes) (texts [][]string, guards [][]expr) {
	for _, box := range b {
		var text []string
		var found []expr
		for i, v := range l {
			low, high := strconv.Itoa(box.Low[i]), strconv.Itoa(box.High[i])
			whole, one := box.Low[i] == v.Low && box.High[i] == v.High, low == high
			if !whole && one {
				text, found = append(text, v.Name+" = "+low), append(found, op(api.OpEq, vari(i), num(box.Low[i])))
			}
			if !whole && !one && box.Low[i] > v.Low {
				text, found = append(text, low+" <= "+v.Name), append(found, op(api.OpLe, num(box.Low[i]), vari(i)))
			}
			if !whole && !one && box.High[i] < v.High {
				text, found = append(text, v.Name+" <= "+high), append(found, op(api.OpLe, vari(i), num(box.High[i])))
			}
		}
		texts, guards = append(texts, text), append(guards, found)
	}
	return texts, guards
}

// joined is the join of expressions, or what stands for none.
func joined(o int, l []expr, none expr) expr {
	if len(l) == 0 {
		return none
	}
	if len(l) == 1 {
		return l[0]
	}
	return op(o, joined(o, l[:len(l)/2], none), joined(o, l[len(l)/2:], none))
}

// P15.3, P15.4
func TestGuardsOfBoxes(t *testing.T) {
	r := rand.New(rand.NewSource(6))
	counts := map[api.Errno]int{}
	for range 3000 {
		l := drawVariables(r, 4, 5)
		b := drawBoxes(r, l, r.Intn(16))
		texts, guards := described(l, b)
		var lines []string
		var ors []expr
		n := 0
		for i := range b {
			line := strings.Join(texts[i], " and ")
			if line == "" {
				line = "true"
			}
			lines, n = append(lines, line), n+len(texts[i])
			ors = append(ors, joined(api.OpAnd, guards[i], expression.True()))
		}
		wantText, want := strings.Join(lines, " or "), joined(api.OpOr, ors, expression.False())
		if len(b) == 0 {
			wantText = "false"
		}
		if text, e := guard.Text(l, b); text != wantText || e != api.OK {
			t.Fatalf("Text(%v, %v) = %q, %d, not %q", l, b, text, e, wantText)
		}
		if m, e := guard.Literals(l, b); m != n || e != api.OK {
			t.Fatalf("Literals(%v, %v) = %d, %d, not %d", l, b, m, e, n)
		}
		_, f := expression.Check(want, len(l))
		counts[f]++
		x, e := guard.Expr(l, b)
		if e != f || e == api.OK && !expression.Equal(x, want) || e != api.OK && !expression.Equal(x, expr{}) {
			t.Fatalf("Expr(%v, %v) = %v, %d, not %v", l, b, x, e, want)
		}
		for _, values := range domain(t, l) {
			is := slices.ContainsFunc(b, func(b guard.Box) bool { return inBox(b, values) })
			if holds, e := guard.Holds(l, b, values); holds != is || e != api.OK {
				t.Fatalf("Holds(%v, %v, %v) = %v, %d", l, b, values, holds, e)
			}
			if f != api.OK {
				continue
			}
			if value, e := expression.Evaluate(x, values); e != api.OK || (value == 1) != is {
				t.Fatalf("Expr(%v, %v) has the value %d, %d for %v", l, b, value, e, values)
			}
		}
	}
	if counts[api.OK] < 500 || counts[api.ErrLimit] < 100 {
		t.Errorf("%v", counts)
	}
}

// P15.3: 16 literals, or boxes without any, are 63 expressions; one more is too many.
func TestLimitOfExpr(t *testing.T) {
	l := append(bits(11), api.Variable{Name: "n", Low: -1, High: 0}, api.Variable{Name: "m", Low: 5, High: 5, Initial: 5})
	l = l[1:]
	one := func(n int) guard.Box {
		box := guard.Box{}
		for i, v := range l {
			box.Low, box.High = append(box.Low, v.Low), append(box.High, v.High)
			if i < n {
				box.High[i] = v.Low
			}
		}
		return box
	}
	check := func(b boxes, want api.Errno) {
		t.Helper()
		x, e := guard.Expr(l, b)
		if e != want || e != api.OK && !reflect.DeepEqual(x, expr{}) {
			t.Errorf("Expr = %v, %d, not %d", x, e, want)
		}
		if _, e := expression.Check(x, len(l)); want == api.OK && e != api.OK {
			t.Errorf("Expr: %d", e)
		}
	}
	check(boxes{one(11)}, api.OK)
	check(boxes{one(11), one(5)}, api.OK)
	check(boxes{one(11), one(6)}, api.ErrLimit)
	check(slices.Repeat(boxes{one(0)}, 16), api.OK)
	check(slices.Repeat(boxes{one(0)}, 17), api.ErrLimit)
	check(slices.Repeat(boxes{one(1)}, 16), api.OK)
	check(slices.Repeat(boxes{one(1)}, 17), api.ErrLimit)
	check(slices.Repeat(boxes{one(0)}, 64), api.ErrLimit)
	check(slices.Repeat(boxes{one(0)}, 65), api.ErrLimit)
	check(slices.Repeat(boxes{one(3)}, 100000), api.ErrLimit)
	for n := range 12 {
		check(boxes{one(n)}, api.OK)
	}
	many := slices.Repeat(boxes{one(2)}, 100000)
	if n, e := guard.Literals(l, many); n != 200000 || e != api.OK {
		t.Errorf("Literals = %d, %d", n, e)
	}
	if text, e := guard.Text(l, many); text != strings.Repeat("v1 = 0 and v2 = 0 or ", 99999)+"v1 = 0 and v2 = 0" || e != api.OK {
		t.Errorf("Text has %d bytes, %d", len(text), e)
	}
}

// P15.4: texts of negative numbers, and of a variable with one value, about which there is nothing to say.
func TestTexts(t *testing.T) {
	l := []api.Variable{{Name: "n", Low: -65536, High: -65500, Initial: -65536}, {Name: "m", Low: 7, High: 7, Initial: 7}, {Name: "k", Low: -5, High: 5}}
	for i, c := range []struct {
		b    boxes
		text string
		n    int
	}{
		{nil, "false", 0},
		{boxes{{ints{-65536, 7, -5}, ints{-65500, 7, 5}}}, "true", 0},
		{boxes{{ints{-65536, 7, -5}, ints{-65500, 7, 5}}, {ints{-65536, 7, -5}, ints{-65500, 7, 5}}}, "true or true", 0},
		{boxes{{ints{-65536, 7, -5}, ints{-65536, 7, -5}}}, "n = -65536 and k = -5", 2},
		{boxes{{ints{-65500, 7, 5}, ints{-65500, 7, 5}}}, "n = -65500 and k = 5", 2},
		{boxes{{ints{-65535, 7, -4}, ints{-65501, 7, 4}}}, "-65535 <= n and n <= -65501 and -4 <= k and k <= 4", 4},
		{boxes{{ints{-65536, 7, 0}, ints{-65501, 7, 5}}, {ints{-65536, 7, 0}, ints{-65500, 7, 0}}}, "n <= -65501 and 0 <= k or k = 0", 3},
	} {
		if text, e := guard.Text(l, c.b); text != c.text || e != api.OK {
			t.Errorf("%d: Text = %q, %d", i, text, e)
		}
		if n, e := guard.Literals(l, c.b); n != c.n || e != api.OK {
			t.Errorf("%d: Literals = %d, %d", i, n, e)
		}
	}
	if text, e := guard.Text(nil, boxes{{}}); text != "true" || e != api.OK {
		t.Errorf("Text = %q, %d", text, e)
	}
}

// P15.3, P15.4: the errors of boxes, after those of the variables; values come last.
func TestErrorsOfFunctionsOfBoxes(t *testing.T) {
	all := func(l []api.Variable, b boxes, want api.Errno) {
		t.Helper()
		if x, e := guard.Expr(l, b); e != want || !reflect.DeepEqual(x, expr{}) {
			t.Errorf("Expr(%v) = %v, %d, not %d", b, x, e, want)
		}
		if text, e := guard.Text(l, b); e != want || text != "" {
			t.Errorf("Text(%v) = %q, %d, not %d", b, text, e, want)
		}
		if n, e := guard.Literals(l, b); e != want || n != 0 {
			t.Errorf("Literals(%v) = %d, %d, not %d", b, n, e, want)
		}
		for _, values := range []ints{{0, 0}, nil, {9, 9}} {
			if holds, e := guard.Holds(l, b, values); e != want || holds {
				t.Errorf("Holds(%v) = %v, %d, not %d", b, holds, e, want)
			}
		}
	}
	for _, c := range badBoxes() {
		all(example(), c.l, c.e)
	}
	for want, lists := range badVariables() {
		for _, l := range lists {
			all(l, nil, want)
			all(l, boxes{{ints{5}, nil}}, want)
		}
	}
	all(nil, boxes{{ints{0}, nil}}, api.ErrSize)
	all(example(), slices.Concat(slices.Repeat(boxes{{ints{0, 0}, ints{0, 0}}}, 100), boxes{{}}), api.ErrSize)
	for _, l := range [][]api.Variable{bits(12), ranges(4095), ranges(63, 0, 63)} { // as many values as there may be
		_, e := guard.Expr(l, nil)
		_, f := guard.Text(l, nil)
		_, g := guard.Literals(l, nil)
		_, h := guard.Holds(l, nil, make(ints, len(l)))
		if e != api.OK || f != api.OK || g != api.OK || h != api.OK {
			t.Errorf("errors %d, %d, %d, %d", e, f, g, h)
		}
	}
	whole := boxes{{ints{0, 0}, ints{3, 1}}}
	for _, values := range []ints{nil, {0}, {0, 0, 0}, {4, 0}, {-1, 0}, {0, 2}, {0, -1}, {math.MaxInt, 0}} {
		for _, b := range []boxes{nil, whole} {
			if holds, e := guard.Holds(example(), b, values); holds || e != api.ErrRange {
				t.Errorf("Holds(%v, %v) = %v, %d", b, values, holds, e)
			}
		}
	}
	if holds, e := guard.Holds(nil, boxes{{}}, nil); !holds || e != api.OK {
		t.Errorf("Holds = %v, %d", holds, e)
	}
	if holds, e := guard.Holds(nil, nil, nil); holds || e != api.OK {
		t.Errorf("Holds = %v, %d", holds, e)
	}
}

// sumOf is the sum of all variables: where it has one value, few elements lie in a box together.
func sumOf(l []api.Variable) expr {
	x := num(0)
	for i := range l {
		x = op(api.OpAdd, x, vari(i))
	}
	return x
}

// P15.3, and what P15.7 says of guards of covers.
func TestSimplify(t *testing.T) {
	r := rand.New(rand.NewSource(7))
	counts := map[api.Errno]int{}
	for range 2000 {
		l := drawVariables(r, 4, 4)
		x, care := drawExpr(r, l, expression.Bool, 5), drawExpr(r, l, expression.Bool, 5)
		if r.Intn(3) == 0 {
			care = expression.True()
		}
		if r.Intn(3) == 0 {
			l = ranges(1+r.Intn(3), 1+r.Intn(3), 1+r.Intn(3))
			x, care = op(api.OpEq, sumOf(l), num(2+r.Intn(3))), expression.True()
		}
		_, e := expression.Check(x, len(l))
		_, f := expression.Check(care, len(l))
		if e != api.OK || f != api.OK {
			continue
		}
		table, _ := guard.Table(l, x)
		matters, _ := guard.Table(l, care)
		b, _ := guard.Boxes(l, table, matters)
		want, e := guard.Expr(l, b)
		counts[e]++
		got, f := guard.Simplify(l, x, care)
		if f != e || !expression.Equal(got, want) {
			t.Fatalf("Simplify(%v, %v, %v) = %v, %d, not %v, %d", l, x, care, got, f, want, e)
		}
		if f != api.OK {
			continue
		}
		simple, e := guard.Table(l, got)
		for i, is := range simple {
			if e != api.OK || matters[i] && is != table[i] {
				t.Fatalf("Simplify(%v, %v, %v) = %v, %d", l, x, care, got, e)
			}
		}
		_, same, _ := guard.Equivalent(l, x, got)
		_, there, _ := guard.Implies(l, x, got)
		_, back, _ := guard.Implies(l, got, x)
		if same != (there && back) || !same && !slices.Contains(matters, false) {
			t.Fatalf("Equivalent(%v, %v) = %v", x, got, same)
		}
	}
	if counts[api.OK] < 500 || counts[api.ErrLimit] < 20 {
		t.Errorf("%v", counts)
	}
}

// Arguments stay as they are, and results share no memory with them, nor within themselves.
func TestMemory(t *testing.T) {
	l, table, care := example(), bools{true, false, true, true, false, true, true, true}, repeated(true, 8)
	b, e := guard.Boxes(l, table, care)
	if e != api.OK || len(b) < 2 {
		t.Fatal(b, e)
	}
	kept := slices.Clone(b)
	for i, box := range b {
		kept[i] = guard.Box{Low: slices.Clone(box.Low), High: slices.Clone(box.High)}
	}
	x, _ := guard.Expr(l, b)
	guard.Text(l, b)
	guard.Literals(l, b)
	values := ints{3, 1}
	guard.Holds(l, b, values)
	updates := []api.Update{{Variable: 0, Value: vari(1)}}
	w, _ := guard.Weakest(l, updates, table)
	for i := range w {
		w[i] = !w[i]
	}
	if !sameBoxes(b, kept) || !slices.Equal(l, example()) || !slices.Equal(table, bools{true, false, true, true, false, true, true, true}) || !slices.Equal(care, repeated(true, 8)) || !slices.Equal(values, ints{3, 1}) || !reflect.DeepEqual(updates, []api.Update{{Variable: 0, Value: vari(1)}}) {
		t.Error("an argument was changed")
	}
	for i := range b {
		for k := range l {
			_, _ = append(b[i].Low, 99), append(b[i].High, 99)
			b[i].Low[k], b[i].High[k] = -5-i, -50-i
		}
	}
	for i := range b {
		if !slices.Equal(b[i].Low, ints{-5 - i, -5 - i}) || !slices.Equal(b[i].High, ints{-50 - i, -50 - i}) {
			t.Error("boxes share memory")
		}
	}
	if y, _ := guard.Expr(l, kept); !expression.Equal(x, y) {
		t.Error("an expression shares memory with boxes")
	}
	first, _, _ := guard.Implies(l, expression.True(), expression.False())
	first[0] = 99
	if second, _, _ := guard.Implies(l, expression.True(), expression.False()); !slices.Equal(second, ints{0, 0}) {
		t.Errorf("Implies = %v", second)
	}
}

// P1: no function panics, whatever its arguments are.
func TestAnyArguments(t *testing.T) {
	lists := [][]api.Variable{nil, example(), bits(12), {{Low: math.MinInt, High: math.MaxInt}}}
	for _, l := range badVariables() {
		lists = append(lists, l...)
	}
	loop := op(api.OpAnd, expr{}, expr{})
	loop.Args[0], loop.Args[1] = loop, loop
	exprs := []expr{{}, loop, expression.True(), {Op: math.MinInt}, vari(math.MaxInt), op(api.OpNot)}
	for _, x := range badGuards() {
		exprs = append(exprs, x)
	}
	tables := []bools{nil, {true}, repeated(true, 8), make(bools, 4096), make(bools, 5000)}
	numbers := []ints{nil, {0}, {0, 0}, {math.MinInt, math.MaxInt}, make(ints, 12), make(ints, 20)}
	for _, l := range lists {
		for _, x := range exprs {
			guard.Table(l, x)
			for _, table := range tables {
				guard.Weakest(l, []api.Update{{Variable: 0, Value: x}}, table)
				guard.Weakest(l, []api.Update{{Variable: math.MinInt, Value: x}}, table)
			}
		}
		for i, x := range exprs {
			y := exprs[(i+1)%len(exprs)]
			guard.Simplify(l, x, y)
			guard.Implies(l, x, y)
			guard.Equivalent(l, x, y)
		}
		for _, table := range tables {
			guard.Boxes(l, table, table)
		}
		for _, low := range numbers {
			for _, high := range numbers {
				b := boxes{{low, high}}
				guard.Expr(l, b)
				guard.Text(l, b)
				guard.Literals(l, b)
				guard.Holds(l, b, low)
				guard.Holds(l, nil, high)
			}
		}
	}
}

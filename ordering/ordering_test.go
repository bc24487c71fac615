package ordering_test

import (
	"math"
	"math/rand"
	"slices"
	"testing"

	"overseer/api"
	"overseer/bdd"
	"overseer/ordering"
)

type (
	ints  = []int
	lists = [][]int
	nodes = []bdd.Node
)

// inOrder is the table of a function in an order: that of the assignments y whose x, with x[order[k]] = y[k], make it true.
func inOrder(table []bool, order ints) []bool {
	n := len(order)
	l := make([]bool, len(table))
	for y := range l {
		x := 0
		for k, variable := range order {
			x |= y >> (n - 1 - k) & 1 << (n - 1 - variable)
		}
		l[y] = table[x]
	}
	return l
}

// sizeOf is the number of the different functions that are left where some first variables have values, and depend on the next variable.
func sizeOf(table []bool) int {
	size := 0
	for width := len(table); width > 1; width /= 2 {
		seen := map[string]bool{}
		for i := 0; i < len(table); i += width {
			part := table[i:][:width]
			if !slices.Equal(part[:width/2], part[width/2:]) {
				seen[textOf(part)] = true
			}
		}
		size += len(seen)
	}
	return size
}

func textOf(table []bool) string {
	var text []byte
	for _, value := range table {
		text = append(text, '0')
		if value {
			text[len(text)-1] = '1'
		}
	}
	return string(text)
}

// draw draws a function of n variables as a table: values that are drawn, or products of two variables or one, of which one must be true.
func draw(r *rand.Rand, n int) []bool {
	table := make([]bool, 1<<n)
	if n == 0 || r.Intn(3) == 0 {
		few := 1 + r.Intn(4)
		for i := range table {
			table[i] = r.Intn(few) == 0
		}
		return table
	}
	for range 1 + r.Intn(n) {
		x, y, odd := r.Intn(n), r.Intn(n), r.Intn(4) == 0
		for i := range table {
			p, q := i>>x&1 == 1, i>>y&1 == 1
			if odd {
				table[i] = table[i] != (p != q)
			} else {
				table[i] = table[i] || p && q
			}
		}
	}
	return table
}

func diagram(table []bool) bdd.Diagram {
	n := 0
	for 1<<n < len(table) {
		n++
	}
	f, e := bdd.FromTable(n, table)
	if e != api.OK {
		panic(e)
	}
	return f
}

// identity is the order 0, 1, ..
func identity(n int) ints {
	order := ints{}
	for i := range n {
		order = append(order, i)
	}
	return order
}

// pairs is the chapter's function x0 x2 or x1 x3, with so many pairs, in which the variables of a pair are as far from each other as there are pairs.
func pairs(count, variables int) bdd.Diagram {
	f := bdd.Diagram{Variables: variables}
	for i := range count {
		x, _ := bdd.Variable(variables, i)
		y, _ := bdd.Variable(variables, i+count)
		both, _ := bdd.And(x, y)
		f, _ = bdd.Or(f, both)
	}
	return f
}

// together is the order in which the variables of each pair follow each other, and then the other ones.
func together(count, variables int) ints {
	order := ints{}
	for i := range count {
		order = append(order, i, i+count)
	}
	for i := 2 * count; i < variables; i++ {
		order = append(order, i)
	}
	return order
}

// errorOf is the error of an order, by the words of the chapter.
func errorOf(order ints, n int) api.Errno {
	if n < 0 || n > bdd.MaxVariables {
		return api.ErrRange
	}
	if len(order) != n {
		return api.ErrSize
	}
	for i, x := range order {
		if x < 0 || x >= n {
			return api.ErrRange
		}
		if slices.Contains(order[:i], x) {
			return api.ErrDuplicate
		}
	}
	return api.OK
}

// badOrders are lists that are no orders.
func badOrders() []ints {
	long := identity(bdd.MaxVariables + 1)
	return []ints{{1}, {-1}, {0, 0}, {0, 2}, {1, 1}, {2, 0, 0}, {0, 0, 2, 5}, {0, 1, 1, -1}, {math.MaxInt, 0}, {0, math.MinInt}, long, make(ints, bdd.MaxVariables+1)}
}

// P12.1
func TestCheck(t *testing.T) {
	r := rand.New(rand.NewSource(1))
	counts := map[api.Errno]int{}
	for range 5000 {
		n := r.Intn(6)
		order := ints(r.Perm(n))
		if n > 0 && r.Intn(2) == 0 {
			order[r.Intn(n)] = r.Intn(n+2) - 1
			order[r.Intn(n)] = r.Intn(n+1) - r.Intn(2)
		}
		if r.Intn(6) == 0 {
			n += r.Intn(3) - 1
		}
		want := errorOf(order, n)
		if e := ordering.Check(order, n); e != want {
			t.Errorf("Check(%v, %d) = %d, not %d", order, n, e, want)
		}
		counts[want]++
	}
	for _, e := range []api.Errno{api.OK, api.ErrRange, api.ErrSize, api.ErrDuplicate} {
		if counts[e] < 100 {
			t.Errorf("only %d lists with the error %d", counts[e], e)
		}
	}
	for i, c := range []struct {
		order ints
		n     int
		e     api.Errno
	}{
		{nil, 0, api.OK}, {ints{}, 0, api.OK}, {identity(40), 40, api.OK}, {identity(41), 41, api.ErrRange}, {nil, -1, api.ErrRange}, {nil, math.MaxInt, api.ErrRange}, {nil, math.MinInt, api.ErrRange},
		{identity(41), 40, api.ErrSize}, {identity(40), 41, api.ErrRange}, {identity(39), 40, api.ErrSize}, {ints{9}, 0, api.ErrSize}, {ints{9, 9}, 1, api.ErrSize}, {ints{1, 1, 3}, 3, api.ErrDuplicate}, {ints{1, 3, 1}, 3, api.ErrRange},
	} {
		if e := ordering.Check(c.order, c.n); e != c.e {
			t.Errorf("%d: Check = %d, not %d", i, e, c.e)
		}
	}
}

// P12.1
func TestInverseAndMove(t *testing.T) {
	r := rand.New(rand.NewSource(2))
	for range 1500 {
		n := r.Intn(9)
		if r.Intn(20) == 0 {
			n = bdd.MaxVariables
		}
		order := ints(r.Perm(n))
		places, e := ordering.Inverse(order)
		if e != api.OK || len(places) != n {
			t.Errorf("Inverse(%v) = %v, %d", order, places, e)
		}
		for k, variable := range order {
			if places[variable] != k {
				t.Errorf("Inverse(%v) = %v", order, places)
			}
		}
		if n == 0 {
			continue
		}
		variable, position := r.Intn(n), r.Intn(n)
		got, e := ordering.Move(order, variable, position)
		others := func(l ints) ints {
			return slices.DeleteFunc(slices.Clone(l), func(x int) bool { return x == variable })
		}
		if e != api.OK || len(got) != n || got[position] != variable || !slices.Equal(others(got), others(order)) {
			t.Errorf("Move(%v, %d, %d) = %v, %d", order, variable, position, got, e)
		}
	}
	for _, c := range [][2]int{{-1, 0}, {3, 0}, {0, -1}, {0, 3}, {math.MaxInt, 0}, {0, math.MinInt}} {
		if l, e := ordering.Move(ints{2, 0, 1}, c[0], c[1]); l != nil || e != api.ErrRange {
			t.Errorf("Move(%v) = %v, %d", c, l, e)
		}
	}
	if l, e := ordering.Move(nil, 0, 0); l != nil || e != api.ErrRange {
		t.Errorf("Move = %v, %d", l, e)
	}
	if l, e := ordering.Move(ints{0, 1, 2}, 0, 2); !slices.Equal(l, ints{1, 2, 0}) || e != api.OK {
		t.Errorf("Move = %v, %d", l, e)
	}
	for _, order := range badOrders() {
		want := errorOf(order, len(order))
		if l, e := ordering.Inverse(order); l != nil || e != want {
			t.Errorf("Inverse(%v) = %v, %d, not %d", order, l, e, want)
		}
		if l, e := ordering.Move(order, -1, 0); l != nil || e != want {
			t.Errorf("Move(%v) = %v, %d, not %d", order, l, e, want)
		}
	}
}

// P12.2
func TestPermute(t *testing.T) {
	r := rand.New(rand.NewSource(3))
	for range 1500 {
		n := r.Intn(8)
		table, order := draw(r, n), ints(r.Perm(n))
		f := diagram(table)
		want := diagram(inOrder(table, order))
		g, e := ordering.Permute(f, order)
		if e != api.OK || !bdd.Equal(g, want) {
			t.Errorf("Permute(%v, %v) = %v, %d, not %v", f, order, g, e, want)
		}
		if size, e := ordering.Size(f, order); e != api.OK || size != len(want.Nodes) || size != sizeOf(inOrder(table, order)) {
			t.Errorf("Size(%v, %v) = %d, %d, not %d", f, order, size, e, len(want.Nodes))
		}
	}
}

// P12.2: functions that have more nodes than a diagram can have in another order.
func TestLargeDiagrams(t *testing.T) {
	for count := 1; count <= 20; count++ {
		// In the order of the other way round, the function has few nodes.
		variables := 2 * count
		good, bad := pairs(1, 2), identity(variables)
		if count <= 13 {
			good = pairs(count, variables)
			if len(good.Nodes) != 2<<count-2 {
				t.Errorf("%d pairs: %d nodes", count, len(good.Nodes))
			}
			var e api.Errno
			good, e = ordering.Permute(good, together(count, variables))
			if e != api.OK || len(good.Nodes) != variables {
				t.Errorf("%d pairs: %d nodes, error %d", count, len(good.Nodes), e)
			}
		} else {
			good = neighbours(count)
		}
		for i := range bad {
			bad[i] = i%count*2 + i/count
		}
		g, e := ordering.Permute(good, bad)
		size, e2 := ordering.Size(good, bad)
		if count <= 13 && (e != api.OK || e2 != api.OK || len(g.Nodes) != 2<<count-2 || size != len(g.Nodes)) {
			t.Errorf("%d pairs: %d nodes, size %d, errors %d and %d", count, len(g.Nodes), size, e, e2)
		}
		if count > 13 && (e != api.ErrLimit || e2 != api.ErrLimit || !bdd.Equal(g, bdd.Diagram{}) || size != 0) {
			t.Errorf("%d pairs: %d nodes, size %d, errors %d and %d", count, len(g.Nodes), size, e, e2)
		}
	}
}

// neighbours is x0 x1 or x2 x3 or ..
func neighbours(count int) bdd.Diagram {
	f := bdd.Diagram{Variables: 2 * count}
	for i := range count {
		x, _ := bdd.Variable(2*count, 2*i)
		y, _ := bdd.Variable(2*count, 2*i+1)
		both, _ := bdd.And(x, y)
		f, _ = bdd.Or(f, both)
	}
	return f
}

// sifted is what the chapter says of sifting.
func sifted(table []bool, order ints) (ints, int) {
	for variable := range len(order) {
		rest := slices.DeleteFunc(slices.Clone(order), func(x int) bool { return x == variable })
		var best ints
		least := math.MaxInt
		for position := range len(order) {
			l := slices.Concat(rest[:position], ints{variable}, rest[position:])
			if size := sizeOf(inOrder(table, l)); size < least {
				best, least = l, size
			}
		}
		order = best
	}
	return order, sizeOf(inOrder(table, order))
}

// P12.3
func TestSift(t *testing.T) {
	r := rand.New(rand.NewSource(4))
	again, equally := 0, 0
	for range 500 {
		n := r.Intn(7)
		table, order := draw(r, n), ints(r.Perm(n))
		f := diagram(table)
		want, size := sifted(table, order)
		if l, s, e := ordering.Sift(f, order); !slices.Equal(l, want) || s != size || e != api.OK {
			t.Errorf("Sift(%v, %v) = %v, %d, %d, not %v, %d", f, order, l, s, e, want, size)
		}
		before := sizeOf(inOrder(table, order))
		for times := 1; size < before; times++ {
			last := want
			before = size
			want, size = sifted(table, want)
			if size < before {
				again++
			} else if !slices.Equal(last, want) {
				equally++
			}
		}
		if l, s, e := ordering.Improve(f, order); !slices.Equal(l, want) || s != size || e != api.OK {
			t.Errorf("Improve(%v, %v) = %v, %d, %d, not %v, %d", f, order, l, s, e, want, size)
		}
	}
	if again < 5 || equally < 5 {
		t.Errorf("only %d times smaller by sifting again, %d times another order", again, equally)
	}
}

// P12.3: many variables.
func TestSiftOfManyVariables(t *testing.T) {
	order := identity(40)
	want := ints{}
	for i := 0; i < 40; i += 2 {
		want = append(want, i+1, i)
	}
	f := neighbours(20)
	if l, size, e := ordering.Sift(f, order); !slices.Equal(l, want) || size != 40 || e != api.OK {
		t.Errorf("Sift = %v, %d, %d", l, size, e)
	}
	r := rand.New(rand.NewSource(10))
	for range 20 {
		f, order := thickets(r, 24), ints(r.Perm(24))
		for name, search := range searches() {
			l, size, e := search(f, order)
			want, e2 := ordering.Size(f, l)
			if size != want || e != api.OK || e2 != api.OK {
				t.Errorf("%s(%v, %v) = %v, %d, %d; there, its size is %d, %d", name, f, order, l, size, e, want, e2)
			}
		}
	}
	if l, size, e := ordering.Improve(pairs(9, 18), identity(18)); len(l) != 18 || size != 18 || e != api.OK {
		t.Errorf("Improve = %v, %d, %d", l, size, e)
	}
}

// thickets is true where one of some lists of variables has values that are drawn.
func thickets(r *rand.Rand, variables int) bdd.Diagram {
	f := bdd.Diagram{Variables: variables}
	for range 12 {
		g := bdd.Diagram{Variables: variables, Root: 1}
		for range 6 {
			x, _ := bdd.Variable(variables, r.Intn(variables))
			if r.Intn(2) == 0 {
				x, _ = bdd.Not(x)
			}
			g, _ = bdd.And(g, x)
		}
		f, _ = bdd.Or(f, g)
	}
	return f
}

// P12.3: an order that is examined in which there are too many nodes.
func TestSiftOfLargeDiagrams(t *testing.T) {
	// In this order the function has just as many nodes as a diagram can have, and more of them if x26 or x27 comes first.
	f := pairs(13, 28)
	x, _ := bdd.Variable(28, 26)
	y, _ := bdd.Variable(28, 27)
	last, _ := bdd.And(x, y)
	f, e := bdd.Or(f, last)
	if e != api.OK || len(f.Nodes) != bdd.MaxNodes {
		t.Fatalf("%d nodes, error %d", len(f.Nodes), e)
	}
	good, e := ordering.Permute(f, together(13, 28))
	if e != api.OK || len(good.Nodes) != 28 {
		t.Fatalf("%d nodes, error %d", len(good.Nodes), e)
	}
	back, e := ordering.Inverse(together(13, 28))
	if e != api.OK {
		t.Fatal(e)
	}
	for name, search := range searches() {
		if l, size, e := search(f, identity(28)); l != nil || size != 0 || e != api.ErrLimit {
			t.Errorf("%s = %v, %d, %d", name, l, size, e)
		}
		if l, size, e := search(good, back); l != nil || size != 0 || e != api.ErrLimit {
			t.Errorf("%s = %v, %d, %d", name, l, size, e)
		}
		far := ints{}
		for i := range 40 {
			far = append(far, i%20*2+i/20)
		}
		if l, size, e := search(neighbours(20), far); l != nil || size != 0 || e != api.ErrLimit {
			t.Errorf("%s = %v, %d, %d", name, l, size, e)
		}
	}
}

// searches are the functions that return an order and a size.
func searches() map[string]func(f bdd.Diagram, order []int) ([]int, int, api.Errno) {
	return map[string]func(f bdd.Diagram, order []int) ([]int, int, api.Errno){"Sift": ordering.Sift, "Improve": ordering.Improve}
}

// allOrders are the orders of n variables, lexicographically.
func allOrders(n int) []ints {
	l := []ints{{}}
	for range n {
		var longer []ints
		for _, order := range l {
			for x := range n {
				if !slices.Contains(order, x) {
					longer = append(longer, append(slices.Clone(order), x))
				}
			}
		}
		l = longer
	}
	return l
}

// P12.3
func TestLeast(t *testing.T) {
	r := rand.New(rand.NewSource(5))
	for i := range 300 {
		n := r.Intn(6)
		if i < 5 {
			n = ordering.MaxLeast
		}
		table := draw(r, n)
		var want ints
		least := math.MaxInt
		for _, order := range allOrders(n) {
			if size := sizeOf(inOrder(table, order)); size < least {
				want, least = order, size
			}
		}
		if l, size, e := ordering.Least(diagram(table)); !slices.Equal(l, want) || size != least || e != api.OK {
			t.Errorf("Least(%v) = %v, %d, %d, not %v, %d", table, l, size, e, want, least)
		}
	}
	for variables, want := range map[int]api.Errno{6: api.OK, 7: api.ErrLimit, 40: api.ErrLimit, 41: api.ErrRange, -1: api.ErrRange} {
		if l, size, e := ordering.Least(bdd.Diagram{Variables: variables, Root: 1}); e != want || size != 0 || e != api.OK && l != nil {
			t.Errorf("Least of %d variables = %v, %d, %d", variables, l, size, e)
		}
	}
}

// P12.2, P12.3: the error of a diagram comes first, then that of an order.
func TestErrors(t *testing.T) {
	calls := func(f bdd.Diagram, order ints, want api.Errno) {
		t.Helper()
		if g, e := ordering.Permute(f, order); e != want || !bdd.Equal(g, bdd.Diagram{}) {
			t.Errorf("Permute(%v, %v) = %v, %d, not %d", f, order, g, e, want)
		}
		if size, e := ordering.Size(f, order); e != want || size != 0 {
			t.Errorf("Size(%v, %v) = %d, %d, not %d", f, order, size, e, want)
		}
		for name, search := range searches() {
			if l, size, e := search(f, order); l != nil || size != 0 || e != want {
				t.Errorf("%s(%v, %v) = %v, %d, %d, not %d", name, f, order, l, size, e, want)
			}
		}
	}
	wrong := map[api.Errno]bdd.Diagram{
		api.ErrRange: {Variables: 1, Nodes: nodes{{Variable: 0, Low: 0, High: 2}}, Root: 2},
		api.ErrForm:  {Variables: 1, Nodes: nodes{{Variable: 0, Low: 1, High: 1}}, Root: 2},
		api.ErrLimit: {Variables: 1, Nodes: make(nodes, bdd.MaxNodes+1)},
	}
	for want, f := range wrong {
		calls(f, ints{0}, want)
		calls(f, ints{0, 0}, want)
		if l, size, e := ordering.Least(f); l != nil || size != 0 || e != want {
			t.Errorf("Least(%v) = %v, %d, %d, not %d", f, l, size, e, want)
		}
	}
	for _, order := range badOrders() {
		for variables := range 4 {
			if want := errorOf(order, variables); want != api.OK {
				calls(bdd.Diagram{Variables: variables, Root: 1}, order, want)
			}
		}
	}
}

// P12.6
func TestConsequences(t *testing.T) {
	r := rand.New(rand.NewSource(6))
	for range 400 {
		n := 1 + r.Intn(6)
		f, order := diagram(draw(r, n)), ints(r.Perm(n))
		inverse, _ := ordering.Inverse(order)
		g, e := ordering.Permute(f, order)
		back, e2 := ordering.Permute(g, inverse)
		if e != api.OK || e2 != api.OK || !bdd.Equal(back, f) {
			t.Errorf("%v, %v: back to %v", f, order, back)
		}
		before, _ := bdd.Count(f)
		if after, _ := bdd.Count(g); after != before {
			t.Errorf("%v, %v: %d assignments, then %d", f, order, before, after)
		}
		_, size, _ := ordering.Sift(f, order)
		_, improved, _ := ordering.Improve(f, order)
		_, least, _ := ordering.Least(f)
		if least > improved || improved > size || size > len(g.Nodes) {
			t.Errorf("%v, %v: %d nodes, %d, %d, %d", f, order, len(g.Nodes), size, improved, least)
		}
		wide, _ := bdd.Rename(f, n+1, identity(n))
		moved, _ := ordering.Move(append(order, n), n, r.Intn(n+1))
		if size, e := ordering.Size(wide, moved); size != len(g.Nodes) || e != api.OK {
			t.Errorf("%v, %v: %d nodes, not %d", wide, moved, size, len(g.Nodes))
		}
	}
}

// The chapter's first example.
func TestExamples(t *testing.T) {
	f := pairs(2, 4)
	for _, c := range []struct {
		order ints
		size  int
	}{{ints{0, 1, 2, 3}, 6}, {ints{0, 2, 1, 3}, 4}} {
		if size, e := ordering.Size(f, c.order); size != c.size || e != api.OK {
			t.Errorf("Size(%v) = %d, %d", c.order, size, e)
		}
	}
	if l, size, e := ordering.Least(f); !slices.Equal(l, ints{0, 2, 1, 3}) || size != 4 || e != api.OK {
		t.Errorf("Least = %v, %d, %d", l, size, e)
	}
}

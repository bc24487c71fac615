package relation_test

import (
	"math/rand"
	"slices"
	"testing"

	"overseer/api"
	"overseer/bdd"
	"overseer/relation"
)

// operation is a function of a relation and a set.
type operation = func(r, f bdd.Diagram) (bdd.Diagram, api.Errno)

// operations are the functions of a relation and a set, without rounds, which are 0 with an error.
func operations(t *testing.T) []operation {
	withRounds := func(op func(r, f bdd.Diagram) (bdd.Diagram, int, api.Errno)) operation {
		return func(r, f bdd.Diagram) (bdd.Diagram, api.Errno) {
			g, rounds, e := op(r, f)
			if rounds < 0 || e != api.OK && rounds != 0 {
				t.Errorf("%d rounds with the error %d", rounds, e)
			}
			return g, e
		}
	}
	return []operation{relation.Image, relation.Preimage, withRounds(relation.Forward), withRounds(relation.Backward)}
}

func constant(variables, root int) bdd.Diagram {
	return bdd.Diagram{Variables: variables, Root: root}
}

// P11.5, P11.6: errors in their order.
func TestErrorsOfImages(t *testing.T) {
	for i, c := range []struct {
		r, f bdd.Diagram
		e    api.Errno
	}{
		{constant(0, 0), constant(0, 1), api.OK},
		{constant(0, 1), constant(0, 1), api.OK},
		{constant(40, 1), constant(20, 1), api.OK},
		{constant(40, 0), constant(20, 0), api.OK},
		{wrong()[api.ErrForm], wrong()[api.ErrOrder], api.ErrForm},
		{wrong()[api.ErrOrder], wrong()[api.ErrForm], api.ErrOrder},
		{constant(-1, 0), wrong()[api.ErrForm], api.ErrRange},
		{constant(3, 0), wrong()[api.ErrForm], api.ErrForm},
		{constant(3, 0), constant(41, 1), api.ErrRange},
		{constant(2, 0), constant(2, 0), api.ErrSize},
		{constant(3, 0), constant(1, 0), api.ErrSize},
		{constant(2, 1), constant(4, 1), api.ErrSize},
		{constant(40, 1), constant(21, 1), api.ErrSize},
		{constant(0, 1), constant(1, 1), api.ErrSize},
	} {
		for j, op := range operations(t) {
			if f, e := op(c.r, c.f); e != c.e || e != api.OK && !bdd.Equal(f, bdd.Diagram{}) {
				t.Errorf("%d, %d: %v, %d, not %d", i, j, f, e, c.e)
			}
		}
	}
	for i, c := range []struct {
		r, s bdd.Diagram
		e    api.Errno
	}{
		{constant(0, 1), constant(0, 1), api.OK},
		{constant(26, 1), constant(26, 1), api.OK},
		{constant(28, 1), constant(28, 1), api.ErrLimit},
		{constant(28, 0), constant(28, 0), api.ErrLimit},
		{constant(40, 1), constant(40, 1), api.ErrLimit},
		{constant(29, 1), constant(29, 1), api.ErrSize},
		{constant(28, 1), constant(26, 1), api.ErrSize},
		{constant(40, 1), constant(28, 1), api.ErrSize},
		{constant(1, 1), constant(1, 1), api.ErrSize},
		{constant(2, 1), constant(4, 1), api.ErrSize},
		{wrong()[api.ErrForm], wrong()[api.ErrOrder], api.ErrForm},
		{constant(3, 0), wrong()[api.ErrOrder], api.ErrOrder},
		{constant(41, 0), wrong()[api.ErrOrder], api.ErrRange},
	} {
		if f, e := relation.Compose(c.r, c.s); e != c.e || e != api.OK && !bdd.Equal(f, bdd.Diagram{}) {
			t.Errorf("%d: Compose = %v, %d, not %d", i, f, e, c.e)
		}
	}
}

// must returns a diagram without an error.
func must(f bdd.Diagram, e api.Errno) bdd.Diagram {
	if e != api.OK {
		panic(e)
	}
	return f
}

// oneOf is true for some codes of 20 bits, and shifts leads from each code to the Xor of it and one of some codes.
func oneOf(codes ints) bdd.Diagram {
	return agreeing(20, codes, func(i int) bdd.Diagram { return must(bdd.Variable(20, i)) })
}

func shifts(codes ints) bdd.Diagram {
	return agreeing(40, codes, func(i int) bdd.Diagram {
		return must(bdd.Xor(must(bdd.Variable(40, 2*i)), must(bdd.Variable(40, 2*i+1))))
	})
}

// agreeing is true where the bits of one of some codes say which of 20 functions are true.
func agreeing(variables int, codes ints, function func(i int) bdd.Diagram) bdd.Diagram {
	f := constant(variables, 0)
	for _, code := range codes {
		g := constant(variables, 1)
		for i := range 20 {
			x := function(i)
			if code>>(19-i)&1 == 0 {
				x = must(bdd.Not(x))
			}
			g = must(bdd.And(g, x))
		}
		f = must(bdd.Or(f, g))
	}
	return f
}

func draws(r *rand.Rand, count, below int) ints {
	var l ints
	for range count {
		l = append(l, r.Intn(below))
	}
	return l
}

// P11.5, P11.6: results with too many nodes, though the arguments have few.
func TestLargeImages(t *testing.T) {
	random := rand.New(rand.NewSource(7))
	few, by := draws(random, 9, 1<<20), draws(random, 24, 1<<20)
	r, f := shifts(by), oneOf(few)
	var both ints
	for _, x := range few {
		for _, y := range by {
			both = append(both, x^y)
		}
	}
	want := oneOf(both)
	for _, op := range operations(t)[:2] {
		g, e := op(r, f)
		equals(t, g, e, want)
	}
	many := oneOf(draws(random, 900, 1<<20))
	for i, op := range operations(t) {
		if i == 2 {
			r = shifts(by[:5])
		}
		g, e := op(r, many)
		fails(t, g, e, api.ErrLimit, i)
	}
}

// P11.5: a composition with too many nodes. The first relation leads to one of few numbers, and the second one from each of these to codes of its own.
func TestLargeComposition(t *testing.T) {
	random := rand.New(rand.NewSource(8))
	n := 1 << 9
	var first, second pairs
	for x := range n {
		first = append(first, [2]int{x, random.Intn(8)})
	}
	for y := range 8 {
		for z := range n {
			if random.Intn(2) == 0 {
				second = append(second, [2]int{y, z})
			}
		}
	}
	r, s := must(relation.FromPairs(n, first)), must(relation.FromPairs(n, second))
	f, e := relation.Compose(r, s)
	fails(t, f, e, api.ErrLimit, len(r.Nodes), len(s.Nodes))
	f, e = relation.Compose(s, s)
	if e != api.OK || bdd.Check(f) != api.OK {
		t.Errorf("Compose: %d", e)
	}
}

// P11.5: only the nodes of the result count, not those of the relation with the set, which are more than a diagram can have.
func TestManyNodesOnTheWay(t *testing.T) {
	random := rand.New(rand.NewSource(9))
	// The relation looks at seven bits of both codes, the set at the other bits.
	var l pairs
	is := map[int]bool{}
	for _, y := range random.Perm(128)[:64] {
		for x := range 128 {
			if random.Intn(2) == 0 {
				l = append(l, [2]int{x, y})
				is[y] = true
			}
		}
	}
	r := must(bdd.Rename(must(relation.FromPairs(128, l)), 40, ints{0, 1, 4, 5, 8, 9, 12, 13, 16, 17, 20, 21, 24, 25}))
	table := make([]bool, 1<<10)
	for i := range table {
		table[i] = random.Intn(2) == 0
	}
	odd := ints{1, 3, 5, 7, 9, 11, 13, 15, 17, 19}
	f := must(bdd.Rename(must(bdd.FromTable(10, table)), 20, odd))
	for i := range odd {
		odd[i] *= 2
	}
	wide := must(bdd.Rename(must(bdd.FromTable(10, table)), 40, odd))
	if _, e := bdd.And(r, wide); e != api.ErrLimit {
		t.Fatalf("the relation with the set is no diagram that is too large: %d", e)
	}
	g, e := relation.Image(r, f)
	if e != api.OK {
		t.Fatalf("Image: %d", e)
	}
	for range 3000 {
		code, y := make([]bool, 20), 0
		for i := range code {
			code[i] = random.Intn(2) == 0
			if i < 14 && i%2 == 0 {
				y *= 2
				if code[i] {
					y++
				}
			}
		}
		if value, e := bdd.Value(g, code); value != is[y] || e != api.OK {
			t.Fatalf("the image has %v: %t, %d", code, value, e)
		}
	}
}

// P11.6: as many rounds as there are states.
func TestLongRuns(t *testing.T) {
	n := api.MaxStates
	var chain pairs
	for x := range n - 1 {
		chain = append(chain, [2]int{x, x + 1})
	}
	r := must(relation.FromPairs(n, chain))
	all := constant(12, 1)
	for i, c := range []struct {
		from   int
		op     func(r, f bdd.Diagram) (bdd.Diagram, int, api.Errno)
		rounds int
	}{
		{0, relation.Forward, n - 1}, {n - 1, relation.Backward, n - 1},
	} {
		g, rounds, e := c.op(r, must(relation.Set(n, ints{c.from})))
		equals(t, g, e, all, i)
		if rounds != c.rounds {
			t.Errorf("%d: %d rounds", i, rounds)
		}
	}
	random := rand.New(rand.NewSource(10))
	order := random.Perm(n)[:1200]
	var ring pairs
	for i, x := range order {
		ring = append(ring, [2]int{x, order[(i+1)%len(order)]})
	}
	g, rounds, e := relation.Forward(must(relation.FromPairs(n, ring)), must(relation.Set(n, order[:1])))
	slices.Sort(order)
	equals(t, g, e, must(relation.Set(n, order)))
	if rounds != len(order)-1 {
		t.Errorf("%d rounds", rounds)
	}
}

// P11.7
func TestConsequences(t *testing.T) {
	random := rand.New(rand.NewSource(11))
	for range 300 {
		n := 1 + random.Intn(30)
		b := bitsOf(n)
		leads, _ := draw(random, b)
		var l pairs
		for x := range n {
			for y := range n {
				if leads[x][y] {
					l = append(l, [2]int{x, y})
				}
			}
		}
		r, id := must(relation.FromPairs(n, l)), must(relation.Identity(n))
		one, two := some(random, n), some(random, n)
		f, g := must(relation.Set(n, one)), must(relation.Set(n, two))
		union, e := bdd.Or(f, g)
		equals(t, union, e, setOf(b, func(x int) bool { return slices.Contains(one, x) || slices.Contains(two, x) }), "union")
		common, e := bdd.And(f, g)
		equals(t, common, e, setOf(b, func(x int) bool { return slices.Contains(one, x) && slices.Contains(two, x) }), "common")
		rest, e := bdd.And(must(bdd.Not(f)), must(relation.Set(n, numbers(5)[:n])))
		equals(t, rest, e, setOf(b, func(x int) bool { return x < n && !slices.Contains(one, x) }), "complement")
		ofUnion, e := relation.Image(r, union)
		equals(t, ofUnion, e, must(bdd.Or(must(relation.Image(r, f)), must(relation.Image(r, g)))), "image of a union")
		same, e := relation.Image(id, f)
		equals(t, same, e, f, "image of the identity")
		twice, e := relation.Image(must(relation.Compose(r, r)), f)
		equals(t, twice, e, must(relation.Image(r, must(relation.Image(r, f)))), "image of the image")
		there := must(bdd.And(must(relation.Image(r, f)), g))
		back := must(bdd.And(f, must(relation.Preimage(r, g))))
		if (there.Root == 0) != (back.Root == 0) {
			t.Errorf("%v, %v, %v: %v, %v", l, one, two, there, back)
		}
		all, _, e := relation.Forward(r, f)
		again, rounds, e2 := relation.Forward(r, all)
		if rounds != 0 || e != api.OK || e2 != api.OK || !bdd.Equal(all, again) {
			t.Errorf("Forward of Forward: %v, %d, %d", again, rounds, e)
		}
	}
}

// The chapter's second and third example.
func TestExamples(t *testing.T) {
	r, e := relation.From(ring(), ints{0})
	if l, e2 := relation.Pairs(3, r); !slices.Equal(l, pairs{{0, 1}, {1, 2}}) || e != api.OK || e2 != api.OK {
		t.Errorf("Pairs = %v, %d", l, e2)
	}
	states := func(f bdd.Diagram, e api.Errno) ints {
		l, e2 := relation.States(3, f)
		if e != api.OK || e2 != api.OK {
			t.Errorf("errors %d and %d", e, e2)
		}
		return l
	}
	if l := states(relation.Image(r, must(relation.Set(3, ints{0, 1})))); !slices.Equal(l, ints{1, 2}) {
		t.Errorf("Image = %v", l)
	}
	zero := must(relation.Set(3, ints{0}))
	if l := states(relation.Preimage(r, zero)); len(l) > 0 {
		t.Errorf("Preimage = %v", l)
	}
	f, rounds, e := relation.Forward(r, zero)
	if l := states(f, e); !slices.Equal(l, ints{0, 1, 2}) || rounds != 2 {
		t.Errorf("Forward = %v, %d", l, rounds)
	}
	f, rounds, e = relation.Backward(r, zero)
	if l := states(f, e); !slices.Equal(l, ints{0}) || rounds != 0 {
		t.Errorf("Backward = %v, %d", l, rounds)
	}
	if l, e := relation.Pairs(3, must(relation.Compose(r, r))); !slices.Equal(l, pairs{{0, 2}}) || e != api.OK {
		t.Errorf("Compose = %v, %d", l, e)
	}
}

// Arguments are kept as they are, and results do not change with them.
func TestArgumentsAreKept(t *testing.T) {
	l, set := pairs{{3, 1}, {0, 2}, {3, 1}, {2, 0}}, ints{0, 3}
	r := must(relation.FromPairs(5, l))
	f := must(relation.Set(5, set))
	if !slices.Equal(l, pairs{{3, 1}, {0, 2}, {3, 1}, {2, 0}}) || !slices.Equal(set, ints{0, 3}) {
		t.Errorf("changed: %v, %v", l, set)
	}
	r0, f0 := bdd.Diagram{Variables: r.Variables, Nodes: slices.Clone(r.Nodes), Root: r.Root}, bdd.Diagram{Variables: f.Variables, Nodes: slices.Clone(f.Nodes), Root: f.Root}
	var results []bdd.Diagram
	for _, op := range operations(t) {
		results = append(results, must(op(r, f)))
	}
	results = append(results, must(relation.Compose(r, r)), must(relation.From(ring(), ints{0, 1})))
	if !bdd.Equal(r, r0) || !bdd.Equal(f, f0) {
		t.Errorf("changed: %v, %v", r, f)
	}
	for i := range results {
		for j := range results[i].Nodes {
			results[i].Nodes[j] = bdd.Node{}
		}
	}
	if !bdd.Equal(r, r0) || !bdd.Equal(f, f0) {
		t.Errorf("a result shares memory with an argument: %v, %v", r, f)
	}
}

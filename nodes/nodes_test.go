package nodes_test

import (
	"math/rand"
	"slices"
	"testing"

	"overseer/nodes"
)

// build returns the number of the function of the variables from first on that has a table.
func build(s *nodes.Store, first int, table []bool) int {
	if len(table) == 1 {
		if table[0] {
			return 1
		}
		return 0
	}
	half := len(table) / 2
	return s.Number(first, build(s, first+1, table[:half]), build(s, first+1, table[half:]))
}

// tableOf returns the values of a function of n variables.
func tableOf(s *nodes.Store, n, k int) []bool {
	l := []int{k}
	for variable := range n {
		var next []int
		for _, k := range l {
			low, high := s.Branches(k, variable)
			next = append(next, low, high)
		}
		l = next
	}
	var table []bool
	for _, k := range l {
		table = append(table, k == 1)
	}
	return table
}

func draw(r *rand.Rand, n int) []bool {
	table, few := make([]bool, 1<<n), 1+r.Intn(4)
	for i := range table {
		table[i] = r.Intn(few) == 0
	}
	return table
}

func TestOperations(t *testing.T) {
	r := rand.New(rand.NewSource(1))
	for range 500 {
		n := r.Intn(6)
		s := nodes.New()
		p, q, c := draw(r, n), draw(r, n), draw(r, n)
		x, y, z := build(s, 0, p), build(s, 0, q), build(s, 0, c)
		for i, op := range []struct {
			k    int
			want func(i int) bool
		}{
			{x, func(i int) bool { return p[i] }},
			{s.And(x, y), func(i int) bool { return p[i] && q[i] }},
			{s.Or(x, y), func(i int) bool { return p[i] || q[i] }},
			{s.Minus(x, y), func(i int) bool { return p[i] && !q[i] }},
			{s.Minus(x, x), func(i int) bool { return false }},
			{s.Combiner(func(x, y bool) bool { return !x || y })(x, y), func(i int) bool { return !p[i] || q[i] }},
			{s.Chooser()(x, y, z), func(i int) bool { return p[i] && q[i] || !p[i] && c[i] }},
		} {
			table := make([]bool, 1<<n)
			for i := range table {
				table[i] = op.want(i)
			}
			if got := tableOf(s, n, op.k); !slices.Equal(got, table) || op.k != build(s, 0, table) {
				t.Errorf("%d: %v, not %v", i, got, table)
			}
		}
	}
}

func TestListAndLoad(t *testing.T) {
	r := rand.New(rand.NewSource(2))
	for range 300 {
		n := r.Intn(6)
		s, other := nodes.New(), nodes.New()
		build(s, 0, draw(r, n))
		table := draw(r, n)
		k := build(s, 0, table)
		l, root, few := nodes.List[nodes.Node](s, k, 1000)
		if back := nodes.Load(s, l, root); back != k || !few {
			t.Errorf("%d is %d, %t", k, back, few)
		}
		if back := nodes.Load(other, l, root); back != build(other, 0, table) || other.Len() != len(l) {
			t.Errorf("%v: %v", l, tableOf(other, n, back))
		}
		if _, _, few := nodes.List[nodes.Node](s, k, len(l)); !few {
			t.Errorf("%d nodes are too many", len(l))
		}
		if l2, root, few := nodes.List[nodes.Node](s, k, len(l)-1); few && k > 1 || len(l2) > 0 || root > 1 {
			t.Errorf("%d nodes are few: %v, %d", len(l), l2, root)
		}
	}
}

func TestLimit(t *testing.T) {
	s := nodes.New()
	s.Number(3, 0, 1)
	s.Limit(1)
	s.Number(2, 0, 1)
	k := s.Number(3, 0, 1)
	if s.IsFull() || s.Len() != 2 || s.Variable(k) != 3 || s.Variable(1) != nodes.None {
		t.Errorf("full: %t, %d nodes, variable %d", s.IsFull(), s.Len(), s.Variable(k))
	}
	s.Number(1, 0, 1)
	if _, _, few := nodes.List[nodes.Node](s, k, 9); !s.IsFull() || few {
		t.Errorf("full: %t, few: %t", s.IsFull(), few)
	}
}

func TestForget(t *testing.T) {
	r := rand.New(rand.NewSource(3))
	for range 300 {
		n := 1 + r.Intn(5)
		s := nodes.New()
		kept := draw(r, n)
		first := build(s, 0, kept)
		old := s.Len()
		build(s, 0, draw(r, n))
		tables := [][]bool{draw(r, n), draw(r, n), kept}
		var l []int
		for _, table := range tables {
			l = append(l, build(s, 0, table))
		}
		most := s.Len()
		l = s.Forget(old, l...)
		if s.Len() > most || l[2] != first || !slices.Equal(tableOf(s, n, first), kept) {
			t.Errorf("%d nodes of %d, %d is %d", s.Len(), most, first, l[2])
		}
		for i, table := range tables {
			if !slices.Equal(tableOf(s, n, l[i]), table) || build(s, 0, table) != l[i] {
				t.Errorf("%d: %v, not %v", i, tableOf(s, n, l[i]), table)
			}
		}
		least := s.Len()
		if s.Forget(old); s.Len() != old || least < old {
			t.Errorf("%d nodes, not %d", s.Len(), old)
		}
	}
}

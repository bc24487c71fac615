package sets

// parts are what a relation is for both values of a bit of the first code, and then of the second one.
type parts [2][2]int

func (s Store) partsOf(r, bit int) parts {
	low, high := s.Branches(r, 2*bit)
	var p parts
	p[0][0], p[0][1] = s.Branches(low, 2*bit+1)
	p[1][0], p[1][1] = s.Branches(high, 2*bit+1)
	return p
}

// turned are the parts of the reverse relation.
func (p parts) turned() parts {
	return parts{{p[0][0], p[1][0]}, {p[0][1], p[1][1]}}
}

// Image returns the set of the codes to which a relation leads from a set.
func (s Store) Image(r, f int) int { return s.linked(r, f, parts.turned) }

// Preimage returns the set of the codes from which a relation leads to a set.
func (s Store) Preimage(r, f int) int {
	return s.linked(r, f, func(p parts) parts { return p })
}

// linked returns the codes that a relation links with some code of a set. The parts of the relation are brought into the order in which the bit of the result comes first.
func (s Store) linked(r, f int, order func(p parts) parts) int {
	or := s.Combiner(func(x, y bool) bool { return x || y })
	results := map[[2]int]int{}
	var linked func(r, f int) int
	linked = func(r, f int) int {
		switch {
		case r == 0 || f == 0:
			return 0
		case r == 1:
			return 1
		}
		pair := [2]int{r, f}
		if k, known := results[pair]; known {
			return k
		}
		bit := min(s.Variable(r)/2, s.Variable(f))
		p := order(s.partsOf(r, bit))
		f0, f1 := s.Branches(f, bit)
		low := or(linked(p[0][0], f0), linked(p[0][1], f1))
		high := or(linked(p[1][0], f0), linked(p[1][1], f1))
		results[pair] = s.Number(bit, low, high)
		return results[pair]
	}
	return linked(r, f)
}

// Compose returns the relation that leads where the relation t leads from where r leads.
func (s Store) Compose(r, t int) int {
	or := s.Combiner(func(x, y bool) bool { return x || y })
	results := map[[2]int]int{}
	var composed func(r, t int) int
	composed = func(r, t int) int {
		switch {
		case r == 0 || t == 0:
			return 0
		case r == 1 && t == 1:
			return 1
		}
		pair := [2]int{r, t}
		if k, known := results[pair]; known {
			return k
		}
		bit := min(s.Variable(r), s.Variable(t)) / 2
		p, q := s.partsOf(r, bit), s.partsOf(t, bit)
		from := func(x int) int {
			low := or(composed(p[x][0], q[0][0]), composed(p[x][1], q[1][0]))
			high := or(composed(p[x][0], q[0][1]), composed(p[x][1], q[1][1]))
			return s.Number(2*bit+1, low, high)
		}
		results[pair] = s.Number(2*bit, from(0), from(1))
		return results[pair]
	}
	return composed(r, t)
}

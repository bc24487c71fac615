package nodes

// And returns the function that is true where both are.
func (s *Store) And(x, y int) int {
	return s.Combiner(func(x, y bool) bool { return x && y })(x, y)
}

// Or returns the function that is true where one of both is.
func (s *Store) Or(x, y int) int {
	return s.Combiner(func(x, y bool) bool { return x || y })(x, y)
}

// Minus returns the function that is true where x is and y is not.
func (s *Store) Minus(x, y int) int {
	return s.Combiner(func(x, y bool) bool { return x && !y })(x, y)
}

// Combiner returns a function that combines two functions by an operation. All nodes that it makes for one result belong to this result, because they are what it is where some first variables have values: so too many of them are too many for the result.
func (s *Store) Combiner(op func(x, y bool) bool) func(x, y int) int {
	results := map[[2]int]int{}
	var combined func(x, y int) int
	combined = func(x, y int) int {
		if k, is := simple(x, y, op); is {
			return k
		}
		pair := [2]int{x, y}
		if k, known := results[pair]; known || s.IsFull() {
			return k
		}
		variable := min(s.Variable(x), s.Variable(y))
		x0, x1 := s.Branches(x, variable)
		y0, y1 := s.Branches(y, variable)
		k := s.Number(variable, combined(x0, y0), combined(x1, y1))
		results[pair] = k
		return k
	}
	return combined
}

// simple returns the result of an operation if it is a constant or one of both functions, as far as this can be seen without a look at their nodes.
func simple(x, y int, op func(x, y bool) bool) (k int, is bool) {
	var low, high bool
	switch {
	case x < 2 && y < 2:
		return numberOf(op(x == 1, y == 1)), true
	case x < 2:
		low, high = op(x == 1, false), op(x == 1, true)
	case y < 2:
		low, high = op(false, y == 1), op(true, y == 1)
	case x == y:
		low, high = op(false, false), op(true, true)
	default:
		return 0, false
	}
	if low == high {
		return numberOf(low), true
	}
	if high {
		return max(x, y), true
	}
	return 0, false
}

// numberOf returns the number of a constant.
func numberOf(value bool) int {
	if value {
		return 1
	}
	return 0
}

// Chooser returns a function that chooses between two functions by another one, which comes first. What Combiner says of nodes holds here as well.
func (s *Store) Chooser() func(x, y, z int) int {
	results := map[[3]int]int{}
	var chosen func(x, y, z int) int
	chosen = func(x, y, z int) int {
		switch {
		case x == 1 || y == z:
			return y
		case x == 0:
			return z
		}
		triple := [3]int{x, y, z}
		if k, known := results[triple]; known || s.IsFull() {
			return k
		}
		variable := min(s.Variable(x), s.Variable(y), s.Variable(z))
		x0, x1 := s.Branches(x, variable)
		y0, y1 := s.Branches(y, variable)
		z0, z1 := s.Branches(z, variable)
		k := s.Number(variable, chosen(x0, y0, z0), chosen(x1, y1, z1))
		results[triple] = k
		return k
	}
	return chosen
}

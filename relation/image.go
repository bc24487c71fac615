package relation

import (
	"cmp"

	"overseer/api"
	"overseer/bdd"
	"overseer/sets"
)

// Image returns the set to which a relation leads from a set.
func Image(r, f bdd.Diagram) (bdd.Diagram, api.Errno) {
	g, _, e := applied(r, f, func(s sets.Store, r, f int) (int, int) { return s.Image(r, f), 0 })
	return g, e
}

// Preimage returns the set from which a relation leads to a set.
func Preimage(r, f bdd.Diagram) (bdd.Diagram, api.Errno) {
	g, _, e := applied(r, f, func(s sets.Store, r, f int) (int, int) { return s.Preimage(r, f), 0 })
	return g, e
}

// Forward returns the least set that contains a set and all to which a relation leads from it, with the number of rounds.
func Forward(r, f bdd.Diagram) (g bdd.Diagram, rounds int, e api.Errno) {
	return applied(r, f, func(s sets.Store, r, f int) (int, int) {
		return s.Spread(f, func(fresh int) int { return s.Image(r, fresh) })
	})
}

// Backward returns the least set that contains a set and all from which a relation leads to it, with the number of rounds.
func Backward(r, f bdd.Diagram) (g bdd.Diagram, rounds int, e api.Errno) {
	return applied(r, f, func(s sets.Store, r, f int) (int, int) {
		return s.Spread(f, func(fresh int) int { return s.Preimage(r, fresh) })
	})
}

// applied returns what an operation makes of a relation and a set: a set and a number.
func applied(r, f bdd.Diagram, op func(s sets.Store, r, f int) (g, number int)) (bdd.Diagram, int, api.Errno) {
	if e := cmp.Or(bdd.Check(r), bdd.Check(f)); e != api.OK {
		return bdd.Diagram{}, 0, e
	}
	if r.Variables != 2*f.Variables {
		return bdd.Diagram{}, 0, api.ErrSize
	}
	s := sets.New()
	k, number := op(s, s.Load(r), s.Load(f))
	g, e := s.Diagram(f.Variables, k)
	if e != api.OK {
		return bdd.Diagram{}, 0, e
	}
	return g, number, api.OK
}

// Compose returns the relation of a step of r and then one of s.
func Compose(r, s bdd.Diagram) (bdd.Diagram, api.Errno) {
	if e := cmp.Or(bdd.Check(r), bdd.Check(s)); e != api.OK {
		return bdd.Diagram{}, e
	}
	if r.Variables != s.Variables || r.Variables%2 == 1 {
		return bdd.Diagram{}, api.ErrSize
	}
	if r.Variables/2*3 > bdd.MaxVariables {
		return bdd.Diagram{}, api.ErrLimit
	}
	store := sets.New()
	return store.Diagram(r.Variables, store.Compose(store.Load(r), store.Load(s)))
}

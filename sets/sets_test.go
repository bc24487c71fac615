package sets_test

import (
	"math/rand"
	"slices"
	"testing"

	"overseer/api"
	"overseer/bdd"
	"overseer/sets"
)

func TestCodes(t *testing.T) {
	r := rand.New(rand.NewSource(1))
	for range 300 {
		bits := r.Intn(6)
		var codes []int
		few := 1 + r.Intn(3)
		for code := range 1 << bits {
			if r.Intn(few) == 0 {
				codes = append(codes, code)
			}
		}
		s := sets.New()
		k := s.Codes(2, bits, codes, s.Number(9, 0, 1))
		f, e := s.Diagram(10, k)
		if e != api.OK || bdd.Check(f) != api.OK {
			t.Fatalf("error %d", e)
		}
		for range 20 {
			code, last := 0, r.Intn(2) == 0
			assignment := make([]bool, 10)
			for i := range assignment {
				assignment[i] = r.Intn(2) == 0
				if i >= 2 && i < 2+bits {
					code *= 2
					if assignment[i] {
						code++
					}
				}
			}
			assignment[9] = last
			if value, e := bdd.Value(f, assignment); value != (slices.Contains(codes, code) && last) || e != api.OK {
				t.Errorf("%v, %v: %t, %d", codes, assignment, value, e)
			}
		}
		again := sets.New()
		if l := slices.Collect(again.Elements(bits, again.Codes(0, bits, codes, 1))); !slices.Equal(l, codes) {
			t.Errorf("Elements of %v: %v", codes, l)
		}
		for code := range again.Elements(bits, 1) {
			if code > 2 {
				t.Error("goes on after the end")
			}
			if code == 2 {
				break
			}
		}
	}
}

func TestPairs(t *testing.T) {
	if l := sets.Pairs(3, [][2]int{{7, 7}, {5, 2}, {0, 1}, {5, 2}, {0, 0}}); !slices.Equal(l, []int{0, 1, 0b100110, 0b111111}) {
		t.Errorf("Pairs = %b", l)
	}
}

// Nodes of earlier rounds are forgotten, but those that were there before are kept.
func TestSpread(t *testing.T) {
	s := sets.New()
	var next [][2]int
	for x := range 1<<14 - 1 {
		next = append(next, [2]int{x, x + 1})
	}
	r := s.Codes(0, 28, sets.Pairs(14, next), 1)
	kept := s.Codes(0, 14, []int{5, 77, 1000}, 1)
	most := 0
	reached, rounds := s.Spread(s.Codes(0, 14, []int{0}, 1), func(fresh int) int {
		most = max(most, s.Len())
		return s.Image(r, fresh)
	})
	if reached != 1 || rounds != 1<<14-1 || most > 1<<18 {
		t.Errorf("%d, %d rounds, %d nodes", reached, rounds, most)
	}
	if l := slices.Collect(s.Elements(14, kept)); !slices.Equal(l, []int{5, 77, 1000}) {
		t.Errorf("%v", l)
	}
	if reached, rounds := s.Spread(kept, func(fresh int) int { return s.Preimage(r, fresh) }); rounds != 922 || reached != s.Codes(0, 14, seq(1001), 1) {
		t.Errorf("%d, %d rounds", reached, rounds)
	}
}

func seq(n int) []int {
	l := make([]int, n)
	for i := range l {
		l[i] = i
	}
	return l
}

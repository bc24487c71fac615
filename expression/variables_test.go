package expression_test

import (
	"math"
	"math/rand"
	"slices"
	"strconv"
	"strings"
	"testing"

	"overseer/alphabet"
	"overseer/api"
	"overseer/expression"
)

// ranges are variables v0, v1, .. with the numbers from 0 to these.
func ranges(highs ...int) []api.Variable {
	var l []api.Variable
	for i, high := range highs {
		l = append(l, api.Variable{Name: "v" + strconv.Itoa(i), High: high})
	}
	return l
}

// bits are n variables from 0 to 1.
func bits(n int) []api.Variable {
	return ranges(slices.Repeat(ints{1}, n)...)
}

// P14.1
func TestCheckVariables(t *testing.T) {
	long := strings.Repeat("x", api.MaxName)
	valid := api.Variable{Name: "a", Low: -1, High: 2, Initial: 1}
	for i, c := range []struct {
		l []api.Variable
		e api.Errno
	}{
		{nil, api.OK},
		{[]api.Variable{}, api.OK},
		{[]api.Variable{valid}, api.OK},
		{wholesome(), api.OK},
		{bits(16), api.OK},
		{bits(17), api.ErrLimit},
		{make([]api.Variable, 17), api.ErrLimit},
		{make([]api.Variable, 16), api.ErrName},
		{[]api.Variable{{Name: ""}}, api.ErrName},
		{[]api.Variable{{Name: long}}, api.OK},
		{[]api.Variable{{Name: long + "x"}}, api.ErrName},
		{[]api.Variable{{Name: "9a"}}, api.ErrName},
		{[]api.Variable{{Name: "a b"}}, api.ErrName},
		{[]api.Variable{{Name: "true"}}, api.OK},
		{[]api.Variable{valid, valid}, api.ErrDuplicate},
		{[]api.Variable{valid, {Name: "A"}, {Name: "a"}}, api.ErrDuplicate},
		{[]api.Variable{valid, {Name: "b"}, {Name: "c"}, {Name: "b"}}, api.ErrDuplicate},
		{[]api.Variable{{Name: "a", Low: -65536, High: 65536, Initial: 65536}}, api.OK},
		{[]api.Variable{{Name: "a", Low: -65536, High: -65536, Initial: -65536}}, api.OK},
		{[]api.Variable{{Name: "a", Low: 65536, High: 65536, Initial: 65536}}, api.OK},
		{[]api.Variable{{Name: "a", Low: -65537}}, api.ErrRange},
		{[]api.Variable{{Name: "a", Low: 65537, High: 65537, Initial: 65537}}, api.ErrRange},
		{[]api.Variable{{Name: "a", High: 65537}}, api.ErrRange},
		{[]api.Variable{{Name: "a", High: -65537}}, api.ErrRange},
		{[]api.Variable{{Name: "a", Low: math.MinInt}}, api.ErrRange},
		{[]api.Variable{{Name: "a", Low: math.MinInt, High: math.MaxInt}}, api.ErrRange},
		{[]api.Variable{{Name: "a", High: math.MinInt}}, api.ErrRange},
		{[]api.Variable{{Name: "a", Low: 1, High: 0, Initial: 5}}, api.ErrOrder},
		{[]api.Variable{{Name: "a", Low: 0, High: -1}}, api.ErrOrder},
		{[]api.Variable{{Name: "a", Low: 65536, High: -65536}}, api.ErrOrder},
		{[]api.Variable{{Name: "a", Low: 3, High: 4, Initial: 2}}, api.ErrRange},
		{[]api.Variable{{Name: "a", Low: 3, High: 4, Initial: 5}}, api.ErrRange},
		{[]api.Variable{{Name: "a", Low: 3, High: 4, Initial: 3}}, api.OK},
		{[]api.Variable{{Name: "a", Low: 3, High: 4, Initial: 4}}, api.OK},
		{[]api.Variable{{Name: "a", Initial: math.MaxInt}}, api.ErrRange},
		{[]api.Variable{valid, {Name: "a", Low: 1 << 20}}, api.ErrDuplicate},
		{[]api.Variable{valid, {Name: "", Low: 1 << 20}}, api.ErrName},
		{[]api.Variable{{Name: "a", Low: 1 << 20}, {Name: ""}}, api.ErrRange},
		{[]api.Variable{{Name: "a", Low: 1}, {Name: "a"}}, api.ErrOrder},
		{[]api.Variable{{Name: "-"}, {Name: "-"}}, api.ErrName},
	} {
		if e := expression.CheckVariables(c.l); e != c.e {
			t.Errorf("%d: CheckVariables(%v) = %d, not %d", i, c.l, e, c.e)
		}
	}
}

// errorOfVariables is the error of a list of variables, by the words of the chapter.
func errorOfVariables(l []api.Variable) api.Errno {
	if len(l) > 16 {
		return api.ErrLimit
	}
	names := map[string]bool{}
	for _, v := range l {
		switch {
		case !alphabet.IsName(v.Name):
			return api.ErrName
		case names[v.Name]:
			return api.ErrDuplicate
		case max(v.Low, v.High) > 65536, min(v.Low, v.High) < -65536:
			return api.ErrRange
		case v.Low > v.High:
			return api.ErrOrder
		case v.Initial < v.Low, v.Initial > v.High:
			return api.ErrRange
		}
		names[v.Name] = true
	}
	return api.OK
}

// P14.1
func TestCheckVariablesDrawn(t *testing.T) {
	r := rand.New(rand.NewSource(4))
	counts := map[api.Errno]int{}
	numbers := ints{-65537, -65536, 65536, 65537, 2, -2}
	for range 20000 {
		l := bits(r.Intn(18))
		for range r.Intn(3) {
			if len(l) == 0 {
				break
			}
			v, x := &l[r.Intn(len(l))], numbers[r.Intn(len(numbers))]
			switch r.Intn(5) {
			case 0:
				v.Name = []string{"v0", "v3", "", "+"}[r.Intn(4)]
			case 1:
				v.Low = x
			case 2:
				v.High = x
			case 3:
				v.Initial = x
			case 4:
				v.Low, v.High, v.Initial = x, x, x
			}
		}
		want := errorOfVariables(l)
		counts[want]++
		if e := expression.CheckVariables(l); e != want {
			t.Fatalf("CheckVariables(%v) = %d, not %d", l, e, want)
		}
	}
	for _, e := range []api.Errno{api.OK, api.ErrLimit, api.ErrName, api.ErrDuplicate, api.ErrRange, api.ErrOrder} {
		if counts[e] < 300 {
			t.Errorf("only %d lists with the error %d", counts[e], e)
		}
	}
}

// P14.1
func TestWithin(t *testing.T) {
	l := wholesome()
	for a := -4; a <= 5; a++ {
		for b := -2; b <= 3; b++ {
			for d := 0; d <= 4; d++ {
				want := a >= -2 && a <= 3 && b >= 0 && b <= 1 && d == 2
				if expression.Within(l, ints{a, b, d}) != want {
					t.Errorf("Within(%d, %d, %d) is not %v", a, b, d, want)
				}
			}
		}
	}
	for _, values := range []ints{nil, {0}, {0, 0}, {0, 0, 2, 0}, {math.MaxInt, 0, 2}, {0, math.MinInt, 2}} {
		if expression.Within(l, values) {
			t.Errorf("Within(%v)", values)
		}
	}
	if !expression.Within(nil, nil) || !expression.Within(nil, ints{}) || expression.Within(nil, ints{0}) {
		t.Error("Within no variables")
	}
	if expression.Within([]api.Variable{{Low: 1, High: 0}}, ints{0}) || expression.Within([]api.Variable{{Low: 1, High: 0}}, ints{1}) {
		t.Error("Within a variable without values")
	}
}

// P14.1
func TestAll(t *testing.T) {
	r := rand.New(rand.NewSource(5))
	for range 300 {
		var l []api.Variable
		size := 1
		for i := range r.Intn(5) {
			low, n := r.Intn(7)-5, 1+r.Intn(5)
			l = append(l, api.Variable{Name: "v" + strconv.Itoa(i), Low: low, High: low + n - 1, Initial: low})
			size *= n
		}
		all, e := expression.All(l)
		if e != api.OK || len(all) != size {
			t.Fatalf("All(%v) has %d, %d, not %d", l, len(all), e, size)
		}
		for i, values := range all {
			if !expression.Within(l, values) || i > 0 && slices.Compare(all[i-1], values) >= 0 {
				t.Fatalf("All(%v) = %v", l, all)
			}
		}
	}
	all, e := expression.All([]api.Variable{{Name: "a", Low: -1, High: 1}, {Name: "b", Low: 5, High: 6, Initial: 5}})
	want := []ints{{-1, 5}, {-1, 6}, {0, 5}, {0, 6}, {1, 5}, {1, 6}}
	if e != api.OK || !slices.EqualFunc(all, want, slices.Equal[ints]) {
		t.Errorf("All = %v, %d", all, e)
	}
}

// P14.1: the number of lists is limited.
func TestLimitOfAll(t *testing.T) {
	wide := []api.Variable{{Name: "a", Low: -65536, High: 65536}, {Name: "b", Low: -65536, High: 65536}, {Name: "c", Low: -65536, High: 65536}, {Name: "d", Low: -65536, High: 65536}}
	for i, c := range []struct {
		l []api.Variable
		n int
		e api.Errno
	}{
		{nil, 1, api.OK},
		{ranges(0), 1, api.OK},
		{ranges(make(ints, 16)...), 1, api.OK},
		{ranges(4095), 4096, api.OK},
		{ranges(4096), 0, api.ErrLimit},
		{bits(12), 4096, api.OK},
		{bits(13), 0, api.ErrLimit},
		{bits(16), 0, api.ErrLimit},
		{ranges(63, 63), 4096, api.OK},
		{ranges(63, 64), 0, api.ErrLimit},
		{ranges(16, 240), 4097, api.ErrLimit},
		{ranges(4095, 0, 0), 4096, api.OK},
		{ranges(0, 0, 4095, 1), 0, api.ErrLimit},
		{wide, 0, api.ErrLimit},
		{append(bits(12), ranges(0, 0)...), 0, api.ErrDuplicate},
		{[]api.Variable{{Name: "a", High: 65536}, {Name: "?"}}, 0, api.ErrName},
	} {
		all, e := expression.All(c.l)
		if e != c.e || e == api.OK && len(all) != c.n || e != api.OK && all != nil {
			t.Errorf("%d: All has %d, %d, not %d, %d", i, len(all), e, c.n, c.e)
		}
	}
	for want, l := range badVariables() {
		if all, e := expression.All(l); all != nil || e != want {
			t.Errorf("All = %v, %d, not %d", all, e, want)
		}
	}
	all, _ := expression.All(nil)
	if len(all) != 1 || len(all[0]) != 0 {
		t.Errorf("All of no variables = %v", all)
	}
}

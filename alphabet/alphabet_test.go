package alphabet_test

import (
	"math"
	"slices"
	"strconv"
	"strings"
	"testing"

	"overseer/alphabet"
	"overseer/api"
)

// machine is the alphabet of the chapter's first example.
func machine() []api.Event {
	return []api.Event{{Name: "start", Controllable: true, Observable: true}, {Name: "finish", Observable: true}, {Name: "break", Fault: 1}}
}

// numbered returns an alphabet of n events.
func numbered(n int) []api.Event {
	var l []api.Event
	for i := range n {
		l = append(l, api.Event{Name: "e" + strconv.Itoa(i)})
	}
	return l
}

// everyKind returns an alphabet with every combination of kinds that is valid.
func everyKind() []api.Event {
	var l []api.Event
	for i := range 8 {
		l = append(l, api.Event{Name: "p" + strconv.Itoa(i), Controllable: i&1 != 0, Observable: i&2 != 0, Forcible: i&4 != 0})
	}
	for i := range 10 {
		l = append(l, api.Event{Name: "f" + strconv.Itoa(i), Forcible: i&1 != 0, Fault: i % (api.MaxFaults + 1)})
	}
	return l
}

// invalid returns alphabets, each with its error.
func invalid() map[api.Errno][]api.Event {
	return map[api.Errno][]api.Event{
		api.ErrLimit:     numbered(api.MaxEvents + 1),
		api.ErrName:      {{Name: "1"}},
		api.ErrDuplicate: {{Name: "a"}, {Name: "a"}},
		api.ErrRange:     {{Name: "a", Fault: -1}},
		api.ErrConflict:  {{Name: "a", Fault: 1, Observable: true}},
	}
}

// P1.1
func TestNames(t *testing.T) {
	for _, s := range []string{"a1", "_b", "_", "a", "Z", "start", "A_9", strings.Repeat("x", api.MaxName), "_" + strings.Repeat("9", api.MaxName-1)} {
		if !alphabet.IsName(s) {
			t.Errorf("%q is a name", s)
		}
	}
	for _, s := range []string{"", "1a", "a-b", " ", "a ", " a", "a b", "a.b", "\x00", "a\x00", "\xc3\xa9", "a\xff", "0", strings.Repeat("x", api.MaxName+1), strings.Repeat("x", 1000)} {
		if alphabet.IsName(s) {
			t.Errorf("%q is no name", s)
		}
	}
}

// P1.1: every byte, as the first, a middle and the last one.
func TestBytesOfNames(t *testing.T) {
	const digits, others = "0123456789", "abcdefghijklmnopqrstuvwxyzABCDEFGHIJKLMNOPQRSTUVWXYZ_"
	for b := range 256 {
		s := string([]byte{byte(b)})
		first, later := strings.Contains(others, s), strings.Contains(digits+others, s)
		if alphabet.IsName(s) != first || alphabet.IsName(s+"x") != first {
			t.Errorf("byte %d as the first one", b)
		}
		if alphabet.IsName("x"+s) != later || alphabet.IsName("x"+s+"x") != later {
			t.Errorf("byte %d as a later one", b)
		}
	}
}

// P1.1
func TestCheck(t *testing.T) {
	type events = []api.Event
	for i, c := range []struct {
		l events
		e api.Errno
	}{
		{nil, api.OK},
		{events{}, api.OK},
		{machine(), api.OK},
		{everyKind(), api.OK},
		{numbered(api.MaxEvents), api.OK},
		{numbered(api.MaxEvents + 1), api.ErrLimit},
		{make(events, api.MaxEvents+1), api.ErrLimit},
		{make(events, api.MaxEvents), api.ErrName},
		{events{{Name: "a"}, {Name: "A"}, {Name: "aa"}, {Name: "_a"}}, api.OK},
		{events{{}}, api.ErrName},
		{events{{Name: "a"}, {Name: "9"}}, api.ErrName},
		{events{{Name: "a"}, {Name: "b"}, {Name: "a"}}, api.ErrDuplicate},
		{events{{Name: "a"}, {Name: "b"}, {Name: "b"}}, api.ErrDuplicate},
		{events{{Name: "a", Fault: -1}}, api.ErrRange},
		{events{{Name: "a", Fault: math.MinInt}}, api.ErrRange},
		{events{{Name: "a", Fault: api.MaxFaults}}, api.OK},
		{events{{Name: "a", Fault: api.MaxFaults + 1}}, api.ErrRange},
		{events{{Name: "a", Fault: math.MaxInt}}, api.ErrRange},
		{events{{Name: "a", Fault: 1, Controllable: true}}, api.ErrConflict},
		{events{{Name: "a", Fault: api.MaxFaults, Observable: true}}, api.ErrConflict},
		{events{{Name: "a", Fault: 2, Controllable: true, Observable: true}}, api.ErrConflict},
		{events{{Name: "a", Fault: 2, Forcible: true}}, api.OK},
		{events{{Name: "a", Controllable: true, Observable: true, Forcible: true}}, api.OK},
	} {
		if e := alphabet.Check(c.l); e != c.e {
			t.Errorf("%d: Check: %d, not %d", i, e, c.e)
		}
	}
}

// P1.1: of several errors, the first one.
func TestOrderOfErrors(t *testing.T) {
	type events = []api.Event
	for i, c := range []struct {
		l events
		e api.Errno
	}{
		{events{{Name: "", Fault: 9}}, api.ErrName},
		{events{{Name: "-"}, {Name: "-"}}, api.ErrName},
		{events{{Name: "a"}, {Name: "a", Fault: -1}}, api.ErrDuplicate},
		{events{{Name: "a"}, {Name: "a", Fault: 1, Observable: true}}, api.ErrDuplicate},
		{events{{Name: "a", Fault: 5, Controllable: true}}, api.ErrRange},
		{events{{Name: "a", Fault: -1, Observable: true}}, api.ErrRange},
		{events{{Name: "a", Fault: 1, Observable: true}, {Name: "a"}}, api.ErrConflict},
		{events{{Name: "a", Fault: 1, Observable: true}, {Name: ""}}, api.ErrConflict},
		{events{{Name: "a", Fault: 5}, {Name: ""}}, api.ErrRange},
		{events{{Name: "a"}, {Name: "a"}, {Name: ""}}, api.ErrDuplicate},
		{events{{Name: "a"}, {Name: "b", Fault: 1, Controllable: true}, {Name: "c", Fault: 7}}, api.ErrConflict},
	} {
		if e := alphabet.Check(c.l); e != c.e {
			t.Errorf("%d: Check: %d, not %d", i, e, c.e)
		}
	}
}

// P1.2
func TestFind(t *testing.T) {
	many := numbered(50)
	for _, c := range []struct {
		l    []api.Event
		name string
		i    int
		is   bool
	}{
		{machine(), "start", 0, true},
		{machine(), "finish", 1, true},
		{machine(), "break", 2, true},
		{machine(), "stop", 0, false},
		{machine(), "Finish", 0, false},
		{machine(), "", 0, false},
		{nil, "start", 0, false},
		{nil, "", 0, false},
		{[]api.Event{{Name: "b"}, {Name: "a"}, {Name: "a"}, {Name: "b"}}, "a", 1, true},
		{[]api.Event{{Name: "b"}, {Name: "a"}, {Name: "a"}, {Name: "b"}}, "b", 0, true},
		{[]api.Event{{Name: "1 2"}, {}}, "", 1, true},
		{[]api.Event{{Name: "1 2"}, {}}, "1 2", 0, true},
		{many, "e49", 49, true},
	} {
		if i, is := alphabet.Find(c.l, c.name); i != c.i || is != c.is {
			t.Errorf("Find %q = %d, %t", c.name, i, is)
		}
	}
}

// P1.2
func TestEqual(t *testing.T) {
	one := api.Event{Name: "a", Controllable: true, Fault: 3}
	if !alphabet.Equal(nil, nil) || !alphabet.Equal(nil, []api.Event{}) || !alphabet.Equal([]api.Event{}, nil) || !alphabet.Equal(machine(), machine()) || !alphabet.Equal([]api.Event{one}, []api.Event{one}) {
		t.Error("equal alphabets")
	}
	for i, l := range [][]api.Event{
		nil,
		{{}},
		{{Name: "b", Controllable: true, Fault: 3}},
		{{Name: "a", Fault: 3}},
		{{Name: "a", Controllable: true, Observable: true, Fault: 3}},
		{{Name: "a", Controllable: true, Forcible: true, Fault: 3}},
		{{Name: "a", Controllable: true, Fault: 2}},
		{one, one},
		{one, {}},
		{{}, one},
	} {
		if alphabet.Equal(l, []api.Event{one}) || alphabet.Equal([]api.Event{one}, l) {
			t.Errorf("%d: not equal", i)
		}
	}
	m := machine()
	slices.Reverse(m)
	if alphabet.Equal(m, machine()) || alphabet.Equal(m[:2], m) || alphabet.Equal(m, m[:2]) {
		t.Error("other orders and lengths")
	}
}

// P1.3
func TestCheckSet(t *testing.T) {
	for i, c := range []struct {
		set []int
		n   int
		e   api.Errno
	}{
		{nil, 0, api.OK},
		{[]int{}, -7, api.OK},
		{nil, 5, api.OK},
		{[]int{0}, 1, api.OK},
		{[]int{0, 1, 2, 3, 4}, 5, api.OK},
		{[]int{4}, 5, api.OK},
		{[]int{5}, 5, api.ErrRange},
		{[]int{-1}, 5, api.ErrRange},
		{[]int{0}, 0, api.ErrRange},
		{[]int{0}, -1, api.ErrRange},
		{[]int{-2}, -1, api.ErrRange},
		{[]int{1, 1}, 5, api.ErrOrder},
		{[]int{0, 0}, 5, api.ErrOrder},
		{[]int{1, 0}, 5, api.ErrOrder},
		{[]int{0, 2, 3, 2}, 5, api.ErrOrder},
		{[]int{2, -1}, 5, api.ErrRange},
		{[]int{2, 1, -1}, 5, api.ErrOrder},
		{[]int{2, 9, 1}, 5, api.ErrRange},
		{[]int{9, 9}, 5, api.ErrRange},
		{[]int{0, 1, 2, 5}, 5, api.ErrRange},
		{[]int{30, 31, 32, 99}, 100, api.OK},
		{[]int{100}, 100, api.ErrRange},
		{[]int{0, math.MaxInt - 1}, math.MaxInt, api.OK},
		{[]int{math.MaxInt}, math.MaxInt, api.ErrRange},
		{[]int{math.MinInt}, math.MaxInt, api.ErrRange},
		{[]int{0}, math.MinInt, api.ErrRange},
	} {
		if e := alphabet.CheckSet(c.set, c.n); e != c.e {
			t.Errorf("%d: CheckSet(%v, %d): %d, not %d", i, c.set, c.n, e, c.e)
		}
	}
}

// somesets returns all sets over a few ints, among them negative and large ones.
func somesets() [][]int {
	from := []int{math.MinInt, -3, 0, 7, math.MaxInt}
	var l [][]int
	for bits := range 1 << len(from) {
		var set []int
		for i, x := range from {
			if bits>>i&1 != 0 {
				set = append(set, x)
			}
		}
		l = append(l, set)
	}
	return l
}

// pick returns the elements of two sets for which a condition on belonging to them holds, found by looking at each of both lists.
func pick(a, b []int, is func(inA, inB bool) bool) []int {
	var l []int
	for _, x := range append(slices.Clone(a), b...) {
		if is(slices.Contains(a, x), slices.Contains(b, x)) && !slices.Contains(l, x) {
			l = append(l, x)
		}
	}
	slices.Sort(l)
	return l
}

// P1.4
func TestSets(t *testing.T) {
	for _, a := range somesets() {
		for _, x := range []int{math.MinInt, -4, -3, -1, 0, 1, 7, 8, math.MaxInt} {
			if alphabet.Contains(a, x) != slices.Contains(a, x) {
				t.Errorf("Contains(%v, %d)", a, x)
			}
		}
		for _, b := range somesets() {
			if l := alphabet.Union(a, b); !slices.Equal(l, pick(a, b, func(p, q bool) bool { return p || q })) {
				t.Errorf("Union(%v, %v) = %v", a, b, l)
			}
			if l := alphabet.Intersect(a, b); !slices.Equal(l, pick(a, b, func(p, q bool) bool { return p && q })) {
				t.Errorf("Intersect(%v, %v) = %v", a, b, l)
			}
			if l := alphabet.Minus(a, b); !slices.Equal(l, pick(a, b, func(p, q bool) bool { return p && !q })) {
				t.Errorf("Minus(%v, %v) = %v", a, b, l)
			}
			if is := alphabet.Subset(a, b); is != (len(pick(a, b, func(p, q bool) bool { return p && !q })) == 0) {
				t.Errorf("Subset(%v, %v) = %t", a, b, is)
			}
		}
	}
}

// P1.4: the results are new, and the arguments stay as they are, also beyond their lengths.
func TestSetsAreNew(t *testing.T) {
	for i, f := range []func(a, b []int) []int{alphabet.Union, alphabet.Intersect, alphabet.Minus} {
		for _, c := range [][2][]int{{{1, 2, 3}, {2, 3, 4}}, {{1, 2, 3}, {1, 2, 3}}, {{1, 2, 3}, nil}, {nil, {1, 2, 3}}, {{1, 2}, {3, 4}}, {{3, 4}, {1, 2}}} {
			a, b := append(slices.Clone(c[0]), 77, 77, 77, 77, 77), append(slices.Clone(c[1]), 88, 88, 88, 88, 88)
			l := f(a[:len(c[0])], b[:len(c[1])])
			l = l[:cap(l)]
			for j := range l {
				l[j] = -1
			}
			if !slices.Equal(a, append(slices.Clone(c[0]), 77, 77, 77, 77, 77)) || !slices.Equal(b, append(slices.Clone(c[1]), 88, 88, 88, 88, 88)) {
				t.Errorf("%d: %v and %v have become %v and %v", i, c[0], c[1], a, b)
			}
		}
	}
}

// P1.5
func TestSelect(t *testing.T) {
	tests := []func(x api.Event) bool{
		alphabet.Controllable:   func(x api.Event) bool { return x.Controllable },
		alphabet.Uncontrollable: func(x api.Event) bool { return !x.Controllable },
		alphabet.Observable:     func(x api.Event) bool { return x.Observable },
		alphabet.Unobservable:   func(x api.Event) bool { return !x.Observable },
		alphabet.Forcible:       func(x api.Event) bool { return x.Forcible },
		alphabet.Faulty:         func(x api.Event) bool { return x.Fault != 0 },
	}
	for _, l := range [][]api.Event{nil, machine(), everyKind(), numbered(api.MaxEvents)} {
		for kind := 1; kind <= 6; kind++ {
			var want []int
			for i, x := range l {
				if tests[kind](x) {
					want = append(want, i)
				}
			}
			if s, e := alphabet.Select(l, kind); e != api.OK || !slices.Equal(s, want) {
				t.Errorf("Select(%d) = %v, %d, not %v", kind, s, e, want)
			}
		}
	}
	for _, kind := range []int{0, 7, -1, math.MinInt, math.MaxInt} {
		for _, l := range [][]api.Event{nil, machine()} {
			if s, e := alphabet.Select(l, kind); e != api.ErrKind || len(s) != 0 {
				t.Errorf("Select(%d) = %v, %d", kind, s, e)
			}
		}
	}
}

// P1.5
func TestFaults(t *testing.T) {
	for class := 1; class <= api.MaxFaults; class++ {
		var want []int
		for i, x := range everyKind() {
			if x.Fault == class {
				want = append(want, i)
			}
		}
		if s, e := alphabet.Faults(everyKind(), class); e != api.OK || !slices.Equal(s, want) || len(want) != 2 {
			t.Errorf("Faults(%d) = %v, %d", class, s, e)
		}
		if s, e := alphabet.Faults(nil, class); e != api.OK || len(s) != 0 {
			t.Errorf("Faults(%d) of nothing = %v, %d", class, s, e)
		}
	}
	for _, class := range []int{0, -1, api.MaxFaults + 1, math.MinInt, math.MaxInt} {
		for _, l := range [][]api.Event{nil, everyKind()} {
			if s, e := alphabet.Faults(l, class); e != api.ErrRange || len(s) != 0 {
				t.Errorf("Faults(%d) = %v, %d", class, s, e)
			}
		}
	}
}

// P1.5
func TestNamesOfSets(t *testing.T) {
	for _, c := range []struct {
		l     []api.Event
		set   []int
		names []string
		e     api.Errno
	}{
		{machine(), nil, nil, api.OK},
		{nil, nil, nil, api.OK},
		{machine(), []int{0, 2}, []string{"start", "break"}, api.OK},
		{machine(), []int{1}, []string{"finish"}, api.OK},
		{machine(), []int{0, 1, 2}, []string{"start", "finish", "break"}, api.OK},
		{machine(), []int{0, 3}, nil, api.ErrRange},
		{machine(), []int{-1}, nil, api.ErrRange},
		{machine(), []int{1, 0}, nil, api.ErrOrder},
		{machine(), []int{1, 1}, nil, api.ErrOrder},
		{machine(), []int{1, 0, 3}, nil, api.ErrOrder},
		{nil, []int{0}, nil, api.ErrRange},
	} {
		if l, e := alphabet.Names(c.l, c.set); e != c.e || !slices.Equal(l, c.names) {
			t.Errorf("Names(%v) = %v, %d", c.set, l, e)
		}
	}
}

// P1.5: the errors of Check come first.
func TestErrorsOfAlphabets(t *testing.T) {
	for want, l := range invalid() {
		for _, n := range []int{1, 99} {
			if s, e := alphabet.Select(l, n); e != want || len(s) != 0 {
				t.Errorf("Select(%d) = %v, %d, not %d", n, s, e, want)
			}
			if s, e := alphabet.Faults(l, n); e != want || len(s) != 0 {
				t.Errorf("Faults(%d) = %v, %d, not %d", n, s, e, want)
			}
			if s, e := alphabet.Names(l, []int{n, 0}); e != want || len(s) != 0 {
				t.Errorf("Names = %v, %d, not %d", s, e, want)
			}
		}
		if s, e := alphabet.Names(l, nil); e != want || len(s) != 0 {
			t.Errorf("Names = %v, %d, not %d", s, e, want)
		}
	}
}

// P1.6
func TestMasks(t *testing.T) {
	for _, c := range []struct {
		set  []int
		mask uint32
		e    api.Errno
	}{
		{nil, 0, api.OK},
		{[]int{0, 2}, 5, api.OK},
		{[]int{0}, 1, api.OK},
		{[]int{31}, 1 << 31, api.OK},
		{[]int{0, 31}, 1<<31 + 1, api.OK},
		{[]int{32}, 0, api.ErrRange},
		{[]int{-1}, 0, api.ErrRange},
		{[]int{0, 32}, 0, api.ErrRange},
		{[]int{1, 1}, 0, api.ErrOrder},
		{[]int{3, 2}, 0, api.ErrOrder},
		{[]int{3, 2, 32}, 0, api.ErrOrder},
		{[]int{3, 32, 2}, 0, api.ErrRange},
		{[]int{math.MaxInt}, 0, api.ErrRange},
	} {
		if m, e := alphabet.Mask(c.set); m != c.mask || e != c.e {
			t.Errorf("Mask(%v) = %d, %d", c.set, m, e)
		}
	}
	var all []int
	for i := range api.MaxEvents {
		all = append(all, i)
		if s := alphabet.Set(1 << i); !slices.Equal(s, []int{i}) {
			t.Errorf("Set of bit %d = %v", i, s)
		}
		if s := alphabet.Set(1<<(i+1) - 1); !slices.Equal(s, all) {
			t.Errorf("Set of the first bits = %v", s)
		}
	}
	if m, e := alphabet.Mask(all); m != math.MaxUint32 || e != api.OK {
		t.Errorf("Mask of all = %d, %d", m, e)
	}
	if s := alphabet.Set(0); len(s) != 0 {
		t.Errorf("Set(0) = %v", s)
	}
}

// P1.7
func TestConsequencesForKinds(t *testing.T) {
	for _, l := range [][]api.Event{nil, machine(), everyKind(), numbered(api.MaxEvents)} {
		of := func(kind int) []int {
			s, e := alphabet.Select(l, kind)
			if e != api.OK || alphabet.CheckSet(s, len(l)) != api.OK {
				t.Fatalf("Select(%d) = %v, %d", kind, s, e)
			}
			return s
		}
		for _, pair := range [][2]int{{alphabet.Controllable, alphabet.Uncontrollable}, {alphabet.Observable, alphabet.Unobservable}} {
			a, b := of(pair[0]), of(pair[1])
			if len(alphabet.Intersect(a, b)) != 0 || len(alphabet.Union(a, b)) != len(l) {
				t.Errorf("%v and %v of %d events", a, b, len(l))
			}
		}
		var union []int
		for class := 1; class <= api.MaxFaults; class++ {
			s, _ := alphabet.Faults(l, class)
			union = alphabet.Union(union, s)
		}
		faulty := of(alphabet.Faulty)
		if !slices.Equal(union, faulty) || !alphabet.Subset(faulty, of(alphabet.Uncontrollable)) || !alphabet.Subset(faulty, of(alphabet.Unobservable)) {
			t.Errorf("Faulty %v, all Faults %v", faulty, union)
		}
	}
}

// P1.7
func TestConsequencesForSets(t *testing.T) {
	for _, a := range somesets() {
		for _, b := range somesets() {
			union, both := alphabet.Union(a, b), alphabet.Intersect(a, b)
			if !slices.Equal(union, alphabet.Union(b, a)) || !slices.Equal(both, alphabet.Intersect(b, a)) {
				t.Errorf("%v and %v in the other order", a, b)
			}
			if !slices.Equal(alphabet.Minus(a, b), alphabet.Minus(a, both)) || !slices.Equal(alphabet.Union(alphabet.Minus(a, b), both), a) {
				t.Errorf("Minus(%v, %v)", a, b)
			}
			if alphabet.Subset(a, b) != slices.Equal(union, b) || alphabet.Subset(a, b) != slices.Equal(both, a) {
				t.Errorf("Subset(%v, %v)", a, b)
			}
			for _, c := range [][]int{nil, {0}, {-3, 7}} {
				if !slices.Equal(alphabet.Minus(c, union), alphabet.Intersect(alphabet.Minus(c, a), alphabet.Minus(c, b))) || !slices.Equal(alphabet.Intersect(c, union), alphabet.Union(alphabet.Intersect(c, a), alphabet.Intersect(c, b))) {
					t.Errorf("laws for %v, %v, %v", a, b, c)
				}
			}
		}
	}
	for i := range uint32(1 << 16) {
		mask := i * 0x9e3779b1
		s := alphabet.Set(mask)
		if m, e := alphabet.Mask(s); m != mask || e != api.OK {
			t.Fatalf("Mask of Set(%d) = %d, %d", mask, m, e)
		}
	}
}

// Arguments stay as they are, and results do not share memory with them.
func TestArgumentsStay(t *testing.T) {
	l, set := everyKind(), []int{0, 2, 5}
	first, e := alphabet.Names(l, set)
	if e != api.OK {
		t.Fatal(e)
	}
	first[0] = "changed"
	second, _ := alphabet.Names(l, set)
	if second[0] != "p0" || !slices.Equal(set, []int{0, 2, 5}) || !alphabet.Equal(l, everyKind()) {
		t.Errorf("%v, %v", second, set)
	}
	for kind := 1; kind <= 6; kind++ {
		a, _ := alphabet.Select(l, kind)
		b, _ := alphabet.Select(l, kind)
		want := slices.Clone(b)
		for i := range a {
			a[i] = -1
		}
		if !slices.Equal(b, want) {
			t.Errorf("Select(%d) returns the same memory twice", kind)
		}
	}
}

// P1: no function panics, whatever its arguments are.
func TestAnyArguments(t *testing.T) {
	lists := [][]int{nil, {}, {3, 1, 2}, {5, 5, 5}, {math.MaxInt, math.MinInt, 0, -1}, {1, 2, 3, 4, 3, 2, 1}, make([]int, 100)}
	for _, a := range lists {
		for _, b := range lists {
			alphabet.Union(a, b)
			alphabet.Intersect(a, b)
			alphabet.Minus(a, b)
			alphabet.Subset(a, b)
		}
		for _, n := range []int{math.MinInt, -1, 0, 1, 32, math.MaxInt} {
			alphabet.Contains(a, n)
			alphabet.CheckSet(a, n)
		}
		if m, e := alphabet.Mask(a); e != api.OK && m != 0 {
			t.Errorf("Mask(%v) = %d, %d", a, m, e)
		}
		for _, l := range invalid() {
			if names, e := alphabet.Names(l, a); e == api.OK || len(names) != 0 {
				t.Errorf("Names(%v) = %v, %d", a, names, e)
			}
		}
	}
}

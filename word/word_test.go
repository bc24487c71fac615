package word_test

import (
	"math"
	"slices"
	"strings"
	"testing"

	"overseer/alphabet"
	"overseer/api"
	"overseer/word"
)

type w = []int

// ordered returns all words over a set with at most n events: longer ones are made of the shorter ones by a further event, in order.
func ordered(set []int, n int) [][]int {
	l, last := [][]int{{}}, [][]int{{}}
	for range n {
		var next [][]int
		for _, x := range last {
			for _, e := range set {
				next = append(next, append(slices.Clone(x), e))
			}
		}
		l, last = append(l, next...), next
	}
	return l
}

func sameWords(a, b [][]int) bool {
	return slices.EqualFunc(a, b, slices.Equal[[]int])
}

// repeated returns a word with n times the same event.
func repeated(x, n int) []int {
	return slices.Repeat([]int{x}, n)
}

// P2.1
func TestCheck(t *testing.T) {
	for i, c := range []struct {
		w, set w
		e      api.Errno
	}{
		{nil, nil, api.OK},
		{nil, w{0, 31}, api.OK},
		{w{0, 2, 0, 2, 2}, w{0, 2}, api.OK},
		{w{31}, w{31}, api.OK},
		{repeated(1, api.MaxWord), w{1}, api.OK},
		{repeated(1, api.MaxWord+1), w{1}, api.ErrLimit},
		{repeated(2, api.MaxWord+1), w{1}, api.ErrLimit},
		{repeated(2, api.MaxWord), w{1}, api.ErrRange},
		{append(repeated(1, api.MaxWord-1), 2), w{1}, api.ErrRange},
		{w{0}, nil, api.ErrRange},
		{w{1}, w{0, 2}, api.ErrRange},
		{w{0, 2, 3}, w{0, 2}, api.ErrRange},
		{w{-1}, w{0, 2}, api.ErrRange},
		{w{math.MaxInt}, w{0, 2}, api.ErrRange},
		{nil, w{2, 0}, api.ErrOrder},
		{nil, w{2, 2}, api.ErrOrder},
		{nil, w{32}, api.ErrRange},
		{nil, w{-1}, api.ErrRange},
		{w{32}, w{32}, api.ErrRange},
		{nil, w{3, 2, 32}, api.ErrOrder},
		{repeated(1, api.MaxWord+1), w{1, 0}, api.ErrOrder},
		{repeated(1, api.MaxWord+1), w{1, 32}, api.ErrRange},
		{w{9}, w{1, 0}, api.ErrOrder},
	} {
		if e := word.Check(c.w, c.set); e != c.e {
			t.Errorf("%d: Check: %d, not %d", i, e, c.e)
		}
	}
}

// P2.2, and the order in P2.8: the words are listed in their order.
func TestCompare(t *testing.T) {
	for _, set := range [][]int{{0, 1}, {math.MinInt, -1, math.MaxInt}} {
		l := ordered(set, 4)
		for i, a := range l {
			for j, b := range l {
				want := 0
				if i < j {
					want = -1
				} else if i > j {
					want = 1
				}
				if n := word.Compare(a, b); n != want {
					t.Errorf("Compare(%v, %v) = %d", a, b, n)
				}
				if word.Equal(a, b) != (i == j) {
					t.Errorf("Equal(%v, %v)", a, b)
				}
			}
		}
	}
	if word.Compare(nil, w{}) != 0 || !word.Equal(nil, w{}) || !word.Equal(w{}, nil) || word.Compare(w{9}, w{0, 0}) != -1 || word.Compare(w{0, 0}, w{9}) != 1 {
		t.Error("empty words and lengths")
	}
}

// P2.3
func TestConcat(t *testing.T) {
	for _, c := range []struct {
		l    [][]int
		want w
	}{
		{nil, nil},
		{[][]int{nil}, nil},
		{[][]int{nil, nil, {}}, nil},
		{[][]int{{3}}, w{3}},
		{[][]int{{1}, nil, {0, 1}}, w{1, 0, 1}},
		{[][]int{{0, -5}, {math.MaxInt}, {2}, {2, 2}}, w{0, -5, math.MaxInt, 2, 2, 2}},
	} {
		if x := word.Concat(c.l...); !slices.Equal(x, c.want) {
			t.Errorf("Concat(%v) = %v", c.l, x)
		}
	}
	if len(word.Concat()) != 0 {
		t.Error("Concat of nothing")
	}
	if x := word.Concat(repeated(1, 5000), repeated(2, 5000)); !slices.Equal(x, append(repeated(1, 5000), repeated(2, 5000)...)) {
		t.Error("Concat of long words")
	}
}

// P2.3
func TestProject(t *testing.T) {
	for _, c := range []struct{ w, set, want w }{
		{nil, nil, nil},
		{w{0, 1}, nil, nil},
		{nil, w{0, 1}, nil},
		{w{0, 2, 1, 2}, w{1, 2}, w{2, 1, 2}},
		{w{0, 0, 1, 0}, w{0}, w{0, 0, 0}},
		{w{2, 1, 0}, w{0, 1, 2}, w{2, 1, 0}},
		{w{2, 1, 0}, w{3, 4}, nil},
		{w{-1, 40, 5, math.MaxInt}, w{-1, 40, math.MaxInt}, w{-1, 40, math.MaxInt}},
		{append(repeated(1, 9000), 2), w{2}, w{2}},
	} {
		if x := word.Project(c.w, c.set); !slices.Equal(x, c.want) {
			t.Errorf("Project(%v) onto %v = %v", c.w, c.set, x)
		}
	}
}

// P2.4
func TestPrefixes(t *testing.T) {
	l := ordered([]int{0, 1}, 4)
	for _, a := range l {
		prefixes := word.Prefixes(a)
		if len(prefixes) != len(a)+1 {
			t.Errorf("Prefixes(%v) = %v", a, prefixes)
		}
		for n, p := range prefixes {
			if !slices.Equal(p, a[:n]) {
				t.Errorf("prefix %d of %v is %v", n, a, p)
			}
		}
		for _, b := range l {
			n := 0
			for n < min(len(a), len(b)) && a[n] == b[n] {
				n++
			}
			if x := word.Common(a, b); !slices.Equal(x, a[:n]) {
				t.Errorf("Common(%v, %v) = %v", a, b, x)
			}
			if is := word.IsPrefix(a, b); is != (n == len(a)) {
				t.Errorf("IsPrefix(%v, %v) = %t", a, b, is)
			}
		}
	}
	if !word.IsPrefix(nil, nil) || !word.IsPrefix(nil, w{}) || !word.IsPrefix(w{}, w{-7}) || word.IsPrefix(w{-7}, nil) || !word.IsPrefix(w{-7, 40}, w{-7, 40, 3}) {
		t.Error("IsPrefix")
	}
	if p := word.Prefixes(nil); len(p) != 1 || len(p[0]) != 0 {
		t.Errorf("Prefixes of the empty word: %v", p)
	}
	if p := word.Prefixes(w{4, 4, -1}); !sameWords(p, [][]int{{}, {4}, {4, 4}, {4, 4, -1}}) {
		t.Errorf("Prefixes = %v", p)
	}
}

// divides reports whether some choice of positions of x is a, and the others are b.
func divides(x, a, b []int) bool {
	for bits := range 1 << len(x) {
		var p, q []int
		for i, e := range x {
			if bits>>i&1 != 0 {
				p = append(p, e)
			} else {
				q = append(q, e)
			}
		}
		if slices.Equal(p, a) && slices.Equal(q, b) {
			return true
		}
	}
	return false
}

// P2.5, and what P2.8 says of shuffles
func TestShuffles(t *testing.T) {
	all := ordered([]int{0, 1}, 7)
	for _, a := range ordered([]int{0, 1}, 4) {
		for _, b := range ordered([]int{0, 1}, 3) {
			var want [][]int
			for _, x := range all {
				is := len(x) == len(a)+len(b) && divides(x, a, b)
				if is {
					want = append(want, x)
				}
				if word.IsShuffle(x, a, b) != is {
					t.Errorf("IsShuffle(%v, %v, %v) = %t", x, a, b, !is)
				}
			}
			l, e := word.Shuffles(a, b)
			if e != api.OK || !sameWords(l, want) {
				t.Errorf("Shuffles(%v, %v) = %v, %d, not %v", a, b, l, e, want)
			}
			for _, x := range l {
				if p := word.Project(x, w{1}); !word.IsShuffle(p, word.Project(a, w{1}), word.Project(b, w{1})) {
					t.Errorf("the projection %v of the shuffle %v of %v and %v", p, x, a, b)
				}
			}
		}
	}
}

// P2.5
func TestLimitOfShuffles(t *testing.T) {
	l, e := word.Shuffles(w{0, 1, 2, 3, 4, 5}, w{6, 7, 8, 9, 10, 11})
	if e != api.OK || len(l) != 924 || !slices.IsSortedFunc(l, slices.Compare[[]int]) {
		t.Errorf("%d shuffles, %d", len(l), e)
	}
	for i, x := range l {
		if !word.IsShuffle(x, w{0, 1, 2, 3, 4, 5}, w{6, 7, 8, 9, 10, 11}) || i > 0 && slices.Equal(x, l[i-1]) {
			t.Errorf("%d: %v", i, x)
		}
	}
	for n := range word.MaxShuffled + 1 {
		if l, e := word.Shuffles(repeated(5, n), repeated(5, word.MaxShuffled-n)); e != api.OK || !sameWords(l, [][]int{repeated(5, word.MaxShuffled)}) {
			t.Errorf("%d: Shuffles = %v, %d", n, l, e)
		}
	}
	for n := range word.MaxShuffled + 2 {
		if l, e := word.Shuffles(repeated(5, n), repeated(6, word.MaxShuffled+1-n)); e != api.ErrLimit || len(l) != 0 {
			t.Errorf("%d: Shuffles = %v, %d", n, l, e)
		}
	}
	if l, e := word.Shuffles(nil, nil); e != api.OK || !sameWords(l, [][]int{{}}) {
		t.Errorf("Shuffles of empty words = %v, %d", l, e)
	}
	if l, e := word.Shuffles(w{math.MaxInt}, w{math.MinInt}); e != api.OK || !sameWords(l, [][]int{{math.MinInt, math.MaxInt}, {math.MaxInt, math.MinInt}}) {
		t.Errorf("Shuffles = %v, %d", l, e)
	}
	if _, e := word.Shuffles(nil, repeated(1, 5000)); e != api.ErrLimit {
		t.Errorf("Shuffles: %d", e)
	}
}

// P2.5: the first event alone does not show which word it belongs to, and there is no limit.
func TestIsShuffle(t *testing.T) {
	a, b := append(repeated(0, 300), 1), append(repeated(0, 400), 2)
	if x := word.Concat(repeated(0, 400), w{2}, repeated(0, 300), w{1}); !word.IsShuffle(x, a, b) || !word.IsShuffle(x, b, a) {
		t.Error("b, then a")
	}
	if x := word.Concat(repeated(0, 300), w{1}, repeated(0, 400), w{2}); !word.IsShuffle(x, a, b) || !word.IsShuffle(x, b, a) {
		t.Error("a, then b")
	}
	if x := word.Concat(repeated(0, 299), w{1}, repeated(0, 401), w{2}); word.IsShuffle(x, a, b) || word.IsShuffle(x, b, a) {
		t.Error("too few before 1")
	}
	if x := word.Concat(repeated(0, 399), w{2}, repeated(0, 301), w{1}); word.IsShuffle(x, a, b) || word.IsShuffle(x, b, a) {
		t.Error("too few before 2")
	}
	if !word.IsShuffle(nil, nil, nil) || word.IsShuffle(w{0}, nil, nil) || word.IsShuffle(nil, w{0}, nil) || word.IsShuffle(nil, nil, w{0}) {
		t.Error("empty words")
	}
	x, y := repeated(3, api.MaxWord+10), repeated(4, api.MaxWord+20)
	if !word.IsShuffle(word.Concat(x, y), x, y) || !word.IsShuffle(word.Concat(y, x), x, y) || word.IsShuffle(word.Concat(x, x), x, y) {
		t.Error("long words")
	}
}

// P2.6, and what P2.8 says of matches: compared with the first word, in order, that has both projections.
func TestMatch(t *testing.T) {
	for _, c := range []struct{ first, second w }{{w{0, 2}, w{1, 2}}, {w{1, 2}, w{0, 2}}, {w{0, 1}, w{0, 1}}, {w{0, 1}, w{2}}, {w{2}, w{0, 1, 2}}, {nil, w{0, 1}}, {w{0, 1}, nil}} {
		var union []int
		for x := range 3 {
			if slices.Contains(c.first, x) || slices.Contains(c.second, x) {
				union = append(union, x)
			}
		}
		all := ordered(union, 6)
		for _, a := range ordered(c.first, 3) {
			for _, b := range ordered(c.second, 3) {
				i := slices.IndexFunc(all, func(x []int) bool {
					return slices.Equal(word.Project(x, c.first), a) && slices.Equal(word.Project(x, c.second), b)
				})
				x, found, e := word.Match(a, c.first, b, c.second)
				if e != api.OK || found != (i >= 0) || found && !slices.Equal(x, all[i]) || !found && len(x) != 0 {
					t.Errorf("Match(%v, %v, %v, %v) = %v, %t, %d", a, c.first, b, c.second, x, found, e)
				}
				both := alphabet.Intersect(c.first, c.second)
				if found != slices.Equal(word.Project(a, both), word.Project(b, both)) {
					t.Errorf("Match(%v, %v, %v, %v): %t", a, c.first, b, c.second, found)
				}
			}
		}
	}
}

// P2.6
func TestLongMatches(t *testing.T) {
	a, b := repeated(3, api.MaxWord), repeated(2, api.MaxWord)
	if x, found, e := word.Match(a, w{3}, b, w{2}); e != api.OK || !found || !slices.Equal(x, word.Concat(b, a)) {
		t.Errorf("two alone: %d events, %t, %d", len(x), found, e)
	}
	if x, found, e := word.Match(a, w{3}, a, w{2, 3}); e != api.OK || !found || !slices.Equal(x, a) {
		t.Errorf("the same one: %d events, %t, %d", len(x), found, e)
	}
	if x, found, e := word.Match(a, w{3}, a[1:], w{2, 3}); e != api.OK || found || len(x) != 0 {
		t.Errorf("one less: %d events, %t, %d", len(x), found, e)
	}
	if x, found, e := word.Match(nil, nil, nil, nil); e != api.OK || !found || len(x) != 0 {
		t.Errorf("nothing: %v, %t, %d", x, found, e)
	}
	if x, found, e := word.Match(w{0, 2}, w{0, 2}, w{1, 2}, w{1, 2}); e != api.OK || !found || !slices.Equal(x, w{0, 1, 2}) {
		t.Errorf("the third example: %v, %t, %d", x, found, e)
	}
}

// P2.6
func TestErrorsOfMatch(t *testing.T) {
	long := repeated(1, api.MaxWord+1)
	for i, c := range []struct {
		a, first, b, second w
		e                   api.Errno
	}{
		{w{1}, w{0}, nil, nil, api.ErrRange},
		{nil, nil, w{1}, w{0}, api.ErrRange},
		{nil, w{1, 0}, nil, nil, api.ErrOrder},
		{nil, nil, nil, w{1, 0}, api.ErrOrder},
		{nil, w{32}, nil, nil, api.ErrRange},
		{nil, nil, nil, w{-1}, api.ErrRange},
		{long, w{1}, nil, nil, api.ErrLimit},
		{nil, nil, long, w{1}, api.ErrLimit},
		{long, w{0}, nil, w{1, 0}, api.ErrLimit},
		{long, w{1, 0}, long, w{32}, api.ErrOrder},
		{w{1}, w{0}, nil, w{1, 0}, api.ErrRange},
		{w{1}, w{0}, long, w{1}, api.ErrRange},
		{nil, w{1, 0}, w{1}, w{0}, api.ErrOrder},
		{nil, w{32}, nil, w{1, 0}, api.ErrRange},
	} {
		if x, found, e := word.Match(c.a, c.first, c.b, c.second); e != c.e || found || len(x) != 0 {
			t.Errorf("%d: Match = %v, %t, %d, not %d", i, x, found, e, c.e)
		}
	}
}

func someEvents() []api.Event {
	return []api.Event{{Name: "start"}, {Name: "end"}, {Name: "star"}, {Name: "End"}}
}

// badAlphabets returns alphabets, each with its error.
func badAlphabets() map[api.Errno][]api.Event {
	return map[api.Errno][]api.Event{
		api.ErrLimit:     make([]api.Event, api.MaxEvents+1),
		api.ErrName:      {{Name: "a b"}},
		api.ErrDuplicate: {{Name: "a"}, {Name: "a"}},
		api.ErrRange:     {{Name: "a", Fault: 5}},
		api.ErrConflict:  {{Name: "a", Fault: 1, Controllable: true}},
	}
}

// P2.7
func TestText(t *testing.T) {
	for i, c := range []struct {
		events []api.Event
		w      w
		s      string
		e      api.Errno
	}{
		{nil, nil, "", api.OK},
		{someEvents(), nil, "", api.OK},
		{someEvents(), w{2}, "star", api.OK},
		{someEvents(), w{0, 1, 0}, "start end start", api.OK},
		{someEvents(), w{3, 2, 2}, "End star star", api.OK},
		{someEvents(), w{4}, "", api.ErrRange},
		{someEvents(), w{0, -1}, "", api.ErrRange},
		{someEvents(), w{math.MinInt}, "", api.ErrRange},
		{nil, w{0}, "", api.ErrRange},
		{someEvents(), repeated(1, api.MaxWord), "end" + strings.Repeat(" end", api.MaxWord-1), api.OK},
		{someEvents(), repeated(1, api.MaxWord+1), "", api.ErrLimit},
		{someEvents(), repeated(9, api.MaxWord+1), "", api.ErrLimit},
	} {
		if s, e := word.Text(c.events, c.w); s != c.s || e != c.e {
			t.Errorf("%d: Text = %q, %d", i, s, e)
		}
	}
	name := strings.Repeat("n", api.MaxName)
	if s, e := word.Text([]api.Event{{Name: name}}, repeated(0, api.MaxWord)); e != api.OK || s != strings.Repeat(name+" ", api.MaxWord-1)+name {
		t.Errorf("a text with more than MaxText bytes: %d bytes, %d", len(s), e)
	}
	for want, l := range badAlphabets() {
		for _, x := range []w{nil, {0}, {-1}, repeated(0, api.MaxWord+1)} {
			if s, e := word.Text(l, x); s != "" || e != want {
				t.Errorf("Text = %q, %d, not %d", s, e, want)
			}
		}
	}
}

// P2.7
func TestParse(t *testing.T) {
	ends := func(n int) string { return strings.Repeat("end ", n) }
	for i, c := range []struct {
		s  string
		w  w
		at int
		e  api.Errno
	}{
		{"", nil, 0, api.OK},
		{" ", nil, 0, api.OK},
		{"     ", nil, 0, api.OK},
		{"star", w{2}, 0, api.OK},
		{"end start", w{1, 0}, 0, api.OK},
		{"  end   start ", w{1, 0}, 0, api.OK},
		{"End end end", w{3, 1, 1}, 0, api.OK},
		{"stop", nil, 0, api.ErrUnknown},
		{"  stop", nil, 2, api.ErrUnknown},
		{"end  stop", nil, 5, api.ErrUnknown},
		{"end  stop none", nil, 5, api.ErrUnknown},
		{"start starts", nil, 6, api.ErrUnknown},
		{"sta", nil, 0, api.ErrUnknown},
		{"endstart", nil, 0, api.ErrUnknown},
		{"end\tstart", nil, 0, api.ErrUnknown},
		{"end \tstart", nil, 4, api.ErrUnknown},
		{"end\n", nil, 0, api.ErrUnknown},
		{"end START", nil, 4, api.ErrUnknown},
		{"end \x00", nil, 4, api.ErrUnknown},
		{"end \xc3\xa9", nil, 4, api.ErrUnknown},
		{"end \xc2\xa0start", nil, 4, api.ErrUnknown},
		{ends(api.MaxWord), repeated(1, api.MaxWord), 0, api.OK},
		{ends(api.MaxWord + 1), nil, 4 * api.MaxWord, api.ErrLimit},
		{ends(api.MaxWord + 5), nil, 4 * api.MaxWord, api.ErrLimit},
		{ends(api.MaxWord) + "  stop", nil, 4*api.MaxWord + 2, api.ErrLimit},
		{ends(api.MaxWord-1) + "  stop end end", nil, 4*api.MaxWord - 2, api.ErrUnknown},
		{strings.Repeat(" ", api.MaxText-3) + "end", w{1}, 0, api.OK},
		{strings.Repeat(" ", api.MaxText-3) + "stp", nil, api.MaxText - 3, api.ErrUnknown},
		{strings.Repeat(" ", api.MaxText), nil, 0, api.OK},
		{strings.Repeat(" ", api.MaxText+1), nil, 0, api.ErrLong},
		{"  stop" + strings.Repeat(" ", api.MaxText), nil, 0, api.ErrLong},
		{ends(api.MaxText), nil, 0, api.ErrLong},
	} {
		x, at, e := word.Parse(someEvents(), c.s)
		if !slices.Equal(x, c.w) || at != c.at || e != c.e {
			t.Errorf("%d: Parse = %v, %d, %d", i, x, at, e)
		}
	}
	for want, l := range badAlphabets() {
		for _, s := range []string{"", " a", "  none", strings.Repeat("a", api.MaxText+1)} {
			if x, at, e := word.Parse(l, s); len(x) != 0 || at != 0 || e != want {
				t.Errorf("Parse = %v, %d, %d, not %d", x, at, e, want)
			}
		}
	}
	if x, at, e := word.Parse(nil, "  a"); len(x) != 0 || at != 2 || e != api.ErrUnknown {
		t.Errorf("Parse without events = %v, %d, %d", x, at, e)
	}
}

// P2.8
func TestConsequences(t *testing.T) {
	sets := [][]int{nil, {0}, {1}, {0, 2}, {1, 2}, {0, 1, 2}}
	l := ordered([]int{0, 1, 2}, 3)
	for _, x := range l {
		for _, a := range sets {
			for _, b := range sets {
				if p := word.Project(word.Project(x, a), b); !word.Equal(p, word.Project(x, alphabet.Intersect(a, b))) {
					t.Errorf("%v onto %v, then %v: %v", x, a, b, p)
				}
			}
			for _, y := range l {
				if p := word.Project(word.Concat(x, y), a); !word.Equal(p, word.Concat(word.Project(x, a), word.Project(y, a))) {
					t.Errorf("%v and %v onto %v: %v", x, y, a, p)
				}
			}
		}
		for _, y := range l {
			if word.Compare(x, y) != -word.Compare(y, x) {
				t.Errorf("%v and %v", x, y)
			}
		}
		s, e := word.Text(someEvents(), x)
		if back, at, f := word.Parse(someEvents(), s); e != api.OK || f != api.OK || at != 0 || !word.Equal(back, x) {
			t.Errorf("%v, %q, %v, %d", x, s, back, at)
		}
	}
}

// spoil writes into all the memory of a word.
func spoil(x []int) {
	x = x[:cap(x)]
	for i := range x {
		x[i] = -99
	}
}

// Arguments stay as they are, also beyond their lengths, and results are new.
func TestArgumentsStay(t *testing.T) {
	whole := w{0, 2, 0, 2, 7, 7, 7, 7, 7, 7, 7, 7}
	a, b, set := whole[:2], whole[2:4], w{0, 2}
	spoil(word.Concat(a))
	spoil(word.Concat(a, b))
	spoil(word.Concat(nil, a, nil))
	spoil(word.Project(a, set))
	spoil(word.Common(a, b))
	spoil(word.Common(a, a))
	x, _, _ := word.Match(a, set, b, set)
	spoil(x)
	x, _, _ = word.Match(a, set, nil, nil)
	spoil(x)
	for _, f := range []func() [][]int{
		func() [][]int { return word.Prefixes(a) },
		func() [][]int { l, _ := word.Shuffles(a, b); return l },
		func() [][]int { l, _ := word.Shuffles(a, nil); return l },
		func() [][]int { l, _ := word.Shuffles(w{0, 1, 2}, w{3, 4}); return l },
	} {
		l, want := f(), f()
		for i := range l {
			spoil(l[i])
			l[i] = want[i]
			if !sameWords(l, want) {
				t.Errorf("the words share memory: %v", l)
			}
		}
	}
	if !slices.Equal(whole, w{0, 2, 0, 2, 7, 7, 7, 7, 7, 7, 7, 7}) || !slices.Equal(set, w{0, 2}) {
		t.Errorf("arguments have become %v, %v", whole, set)
	}
}

// P1: no function panics, whatever its arguments are, and with an error there is nothing else.
func TestAnyArguments(t *testing.T) {
	lists := []w{nil, {}, {0}, {3, 1, 2}, {5, 5, 5}, {math.MaxInt, math.MinInt, 0, -1}, repeated(-1, 20), repeated(1, api.MaxWord+1)}
	for _, a := range lists {
		for _, b := range lists {
			word.Check(a, b)
			word.Compare(a, b)
			word.Project(a, b)
			word.Concat(a, b, a)
			word.Common(a, b)
			word.IsPrefix(a, b)
			word.IsShuffle(a, a, b)
			if l, e := word.Shuffles(a, b); e != api.OK && len(l) != 0 {
				t.Errorf("Shuffles(%v, %v) = %v, %d", a, b, l, e)
			}
			for _, set := range lists {
				if x, found, e := word.Match(a, set, b, set); e != api.OK && (found || len(x) != 0) {
					t.Errorf("Match = %v, %t, %d", x, found, e)
				}
			}
		}
		for _, l := range append([][]api.Event{nil, someEvents()}, make([]api.Event, 40)) {
			if s, e := word.Text(l, a); e != api.OK && s != "" {
				t.Errorf("Text(%v) = %q, %d", a, s, e)
			}
		}
	}
}

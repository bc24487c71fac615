package named_test

import (
	"slices"
	"strings"
	"testing"

	"overseer/api"
	"overseer/named"
)

// thing has a name, and an error of its own.
type thing struct {
	name string
	e    api.Errno
}

func nameOf(x thing) string {
	return x.name
}

// P17.1, P22.1: the first of some things that has an error: of its name, of a name that is taken, its own.
func TestCheck(t *testing.T) {
	for i, c := range []struct {
		l     []thing
		index int
		e     api.Errno
	}{
		{nil, 0, api.OK},
		{[]thing{{"a", api.OK}, {"b", api.OK}, {"A", api.OK}}, 0, api.OK},
		{[]thing{{"a", api.ErrForm}, {"1", api.OK}}, 0, api.ErrForm},
		{[]thing{{"a", api.OK}, {"1", api.ErrForm}}, 1, api.ErrName},
		{[]thing{{"a", api.OK}, {"b", api.OK}, {"a", api.ErrForm}}, 2, api.ErrDuplicate},
		{[]thing{{"a", api.OK}, {"b", api.ErrLimit}, {"a", api.ErrForm}}, 1, api.ErrLimit},
		{[]thing{{"", api.OK}, {"", api.OK}}, 0, api.ErrName},
	} {
		rest := func(i int, x thing) api.Errno {
			if x != c.l[i] {
				t.Errorf("%v is not at %d", x, i)
			}
			return x.e
		}
		if index, e := named.Check(c.l, nameOf, named.CheckName, rest); index != c.index || e != c.e {
			t.Errorf("%d: Check = %d, %d", i, index, e)
		}
	}
}

// P17.1, P22.1: lists of names, which are names, or are known.
func TestCheckList(t *testing.T) {
	known := named.IndexOf([]string{"a", "b", ""}, func(s string) string { return s })
	for i, c := range []struct {
		text     string
		names, e api.Errno
	}{
		{"a b", api.OK, api.OK},
		{"a b a", api.ErrDuplicate, api.ErrDuplicate},
		{"a c c", api.ErrDuplicate, api.ErrUnknown},
		{"b é b", api.ErrName, api.ErrUnknown},
		{"", api.OK, api.OK},
	} {
		l := strings.Fields(c.text)
		if e := named.CheckList(l, named.CheckName); e != c.names {
			t.Errorf("%d: %d", i, e)
		}
		if e := named.CheckList(l, known.CheckKnown); e != c.e {
			t.Errorf("%d: of those that are known: %d", i, e)
		}
	}
}

// P22.2: the index has the first of some things with a name.
func TestIndexOf(t *testing.T) {
	index := named.IndexOf([]thing{{"a", 1}, {"b", 2}, {"a", 3}, {"", 4}, {"b", 5}}, nameOf)
	var got []int
	for _, name := range []string{"a", "b", "", "c"} {
		i, is := index[name]
		if !is {
			i = -1
		}
		got = append(got, i)
	}
	if !slices.Equal(got, []int{0, 1, 3, -1}) || len(index) != 3 {
		t.Errorf("IndexOf = %v", index)
	}
	if e := (named.Index)(nil).CheckKnown("a"); e != api.ErrUnknown {
		t.Errorf("an index of nothing: %d", e)
	}
}

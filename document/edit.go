package document

import (
	"slices"

	"overseer/api"
)

// Edit drops an item (Kind and Name), or puts one.
type Edit struct {
	Drop bool
	Item Item
}

// Put returns the list in which an item takes the place of the one with its key, or is the last one of its kind.
func Put(l []Item, x Item) ([]Item, api.Errno) {
	return Apply(l, []Edit{{Item: x}})
}

// Drop returns the list without an item.
func Drop(l []Item, kind int, name string) ([]Item, api.Errno) {
	return Apply(l, []Edit{{Drop: true, Item: Item{Kind: kind, Name: name}}})
}

// Apply returns the list after some edits.
func Apply(l []Item, edits []Edit) ([]Item, api.Errno) {
	if e := Check(l); e != api.OK {
		return nil, e
	}
	l = slices.Clone(l)
	for _, x := range edits {
		var e api.Errno
		if l, e = x.apply(l); e != api.OK {
			return nil, e
		}
	}
	return copyOf(l), api.OK
}

// apply returns the list after an edit, in the same memory.
func (x Edit) apply(l []Item) ([]Item, api.Errno) {
	i, found := Find(l, x.Item.Kind, x.Item.Name)
	if x.Drop {
		if !found {
			return nil, api.ErrNotFound
		}
		return slices.Delete(l, i, i+1), api.OK
	}
	if e := Check([]Item{x.Item}); e != api.OK {
		return nil, e
	}
	switch {
	case found:
		l[i] = x.Item
		return l, api.OK
	case len(l) == MaxItems:
		return nil, api.ErrLimit
	}
	return slices.Insert(l, endOf(l, x.Item.Kind), x.Item), api.OK
}

// endOf returns the index after the last item whose kind is not greater than kind.
func endOf(l []Item, kind int) int {
	n := 0
	for i, x := range l {
		if x.Kind <= kind {
			n = i + 1
		}
	}
	return n
}

// Difference returns the edits that make a list like b of a.
func Difference(a, b []Item) ([]Edit, api.Errno) {
	for _, l := range [][]Item{a, b} {
		if e := Check(l); e != api.OK {
			return nil, e
		}
	}
	var edits []Edit
	for _, x := range a {
		if _, found := Find(b, x.Kind, x.Name); !found {
			edits = append(edits, Edit{Drop: true, Item: Item{Kind: x.Kind, Name: x.Name}})
		}
	}
	for _, x := range copyOf(b) {
		if i, found := Find(a, x.Kind, x.Name); !found || !Equal(a[i], x) {
			edits = append(edits, Edit{Item: x})
		}
	}
	return edits, api.OK
}

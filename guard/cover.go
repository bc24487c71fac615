package guard

import (
	"slices"

	"overseer/api"
	"overseer/expression"
)

// cover is a table that is to be covered where care is set, and in how many boxes each element lies.
type cover struct {
	variables   []api.Variable
	table, care []bool
	boxes       []int
}

// Boxes returns the cover of a table: boxes that agree with it where care is set.
func Boxes(l []api.Variable, table, care []bool) ([]Box, api.Errno) {
	all, e := expression.All(l)
	if e != api.OK {
		return nil, e
	}
	if len(table) != len(all) || len(care) != len(all) {
		return nil, api.ErrSize
	}
	return coverOf(l, all, table, care), api.OK
}

// coverOf does what Boxes does, for tables over the domain.
func coverOf(l []api.Variable, all [][]int, table, care []bool) []Box {
	c := cover{l, table, care, make([]int, len(all))}
	return c.thin(c.grown(all))
}

func (c cover) needs(place int) bool   { return c.care[place] && c.table[place] }
func (c cover) forbids(place int) bool { return c.care[place] && !c.table[place] }

// grown returns boxes that contain all needed elements. An element that lies in a box stays in it, so one pass finds the first one that lies in none again and again.
func (c cover) grown(all [][]int) []Box {
	var boxes []Box
	for place, element := range all {
		if c.needs(place) && c.boxes[place] == 0 {
			box := c.grow(element)
			c.count(box, 1)
			boxes = append(boxes, box)
		}
	}
	return boxes
}

// grow returns the box to which an element grows.
func (c cover) grow(element []int) Box {
	box := Box{slices.Clone(element), slices.Clone(element)}
	for i, v := range c.variables {
		for box.Low[i] > v.Low && c.isFree(box, i, box.Low[i]-1) {
			box.Low[i]--
		}
		for box.High[i] < v.High && c.isFree(box, i, box.High[i]+1) {
			box.High[i]++
		}
	}
	return box
}

// isFree reports whether the part that a box without forbidden elements gains with one more value of a variable has none either.
func (c cover) isFree(box Box, variable, value int) bool {
	part := Box{slices.Clone(box.Low), slices.Clone(box.High)}
	part.Low[variable], part.High[variable] = value, value
	return every(c.variables, part, func(place int) bool { return !c.forbids(place) })
}

// count adds a number to those of the boxes in which the elements of a box lie.
func (c cover) count(box Box, boxes int) {
	every(c.variables, box, func(place int) bool {
		c.boxes[place] += boxes
		return true
	})
}

// thin leaves out each box whose needed elements all lie in others that are left.
func (c cover) thin(boxes []Box) []Box {
	var left []Box
	for _, box := range boxes {
		superfluous := every(c.variables, box, func(place int) bool { return !c.needs(place) || c.boxes[place] > 1 })
		if superfluous {
			c.count(box, -1)
		} else {
			left = append(left, box)
		}
	}
	return left
}

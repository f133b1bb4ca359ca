// Package cells: a piece of the line, cut into cells, and what is told of them.
package cells

import (
	"slices"

	"hedge/api"
	"hedge/ends"
	"hedge/expr"
	"hedge/spans"
)

// cell is a piece of the line. All its numbers are exact: its ends are whole numbers of
// 2 to the -48 (a bit for each cut, and 8 for Parts), at most 2 to the 52 of them; and its
// width is at most 2 to the 13 times a power of 2, so a float.
type cell struct {
	left, right float64
	value       api.Interval // what the expression is on it
	said        bool         // whether it is anything
}

// of is the cell between two ends, with what f is on it.
func of(f expr.Expression, left, right float64) cell {
	x := api.Interval{Lo: ends.Down(left), Hi: ends.Up(right)}
	value, errno := f.Of(map[string]api.Interval{"x": x})
	return cell{left, right, value, errno == api.OK}
}

func (c cell) width() float32 {
	return float32(c.right - c.left)
}

// worth is what the cell adds to the integral, if that can be said.
func (c cell) worth() api.Interval {
	return spans.Mul(c.value, api.Interval{Lo: c.width(), Hi: c.width()})
}

// doubt is how far apart the ends of the worth are.
func (c cell) doubt() float32 {
	w := c.worth()
	return ends.SumUp(w.Hi, -w.Lo)
}

// Integral is what the integral of f lies between, after so many cuts; or ErrOpen, if
// nothing can be said of some cell. The line is from from / Parts to to / Parts.
func Integral(f expr.Expression, from, to, budget int) (api.Interval, api.Errno) {
	line := whole(f, from, to)
	for range budget {
		line = cut(f, line, worst(line))
	}
	return sum(line)
}

// whole is the line ahead of all cuts.
func whole(f expr.Expression, from, to int) []cell {
	return []cell{of(f, float64(from)/api.Parts, float64(to)/api.Parts)}
}

// worst is the place of the cell that is cut next: of those that are alike the leftmost.
func worst(line []cell) int {
	found := 0
	for i, c := range line {
		if c.worse(line[found]) {
			found = i
		}
	}
	return found
}

// worse tells whether c is cut ahead of d, wherever they lie.
func (c cell) worse(d cell) bool {
	switch {
	case c.said != d.said:
		return d.said
	case c.said:
		return c.doubt() > d.doubt()
	default:
		return c.width() > d.width()
	}
}

// cut makes two cells of the one at that place.
func cut(f expr.Expression, line []cell, place int) []cell {
	c := line[place]
	middle := (c.left + c.right) / 2
	return slices.Replace(line, place, place+1, of(f, c.left, middle), of(f, middle, c.right))
}

// sum adds the worths from the left to the right: each sum is rounded, so another order
// might tell another interval.
func sum(line []cell) (api.Interval, api.Errno) {
	var all api.Interval
	for _, c := range line {
		if !c.said {
			return api.Interval{}, api.ErrOpen
		}
		all = spans.Add(all, c.worth())
	}
	return all, api.OK
}

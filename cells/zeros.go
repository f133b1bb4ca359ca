package cells

import (
	"hedge/api"
	"hedge/ends"
	"hedge/expr"
	"hedge/spans"
)

// Zeros is where f may be 0, after so many cuts or fewer, from the left to the right. The
// line is from from / Parts to to / Parts.
func Zeros(f expr.Expression, from, to, budget int) []api.Interval {
	line := whole(f, from, to)
	for range budget {
		place, found := widest(line)
		if !found {
			break
		}
		line = cut(f, line, place)
	}
	return unclear(line)
}

// isClear tells whether f is surely not 0 on the cell. Where nothing can be said of the whole
// cell, f may still be 0 somewhere on it.
func (c cell) isClear() bool {
	return c.said && !spans.HasZero(c.value)
}

// widest is the place of the cell that is cut next, if some cell is not clear: of those that
// are alike the leftmost.
func widest(line []cell) (place int, found bool) {
	for i, c := range line {
		if !c.isClear() && (!found || c.width() > line[place].width()) {
			place, found = i, true
		}
	}
	return place, found
}

// unclear is where the cells lie that are not clear. Neighbours are joined ahead of all
// rounding: two that have a clear cell between them stay two, even if it is so narrow that
// they overlap once they are rounded.
func unclear(line []cell) []api.Interval {
	var told []api.Interval
	for i, c := range line {
		switch {
		case c.isClear():
		case i > 0 && !line[i-1].isClear():
			told[len(told)-1].Hi = ends.Up(c.right)
		default:
			told = append(told, api.Interval{Lo: ends.Down(c.left), Hi: ends.Up(c.right)})
		}
	}
	return told
}

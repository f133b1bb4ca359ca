// Package expr: texts that are expressions, and what these are for intervals.
package expr

import (
	"hedge/api"
	"hedge/spans"
)

// op is what a step does.
type op int

const (
	none op = iota
	number
	variable
	neg
	add
	sub
	mul
	div
	sqrt
	sq
	abs
	least
	greatest
)

// step is a number, a variable, or what is done with the last intervals that were reckoned.
type step struct {
	op    op
	args  int          // how many intervals it is done with
	name  string       // of a variable
	value api.Interval // of a number
}

// Expression is what Read makes of a text: steps that stand in the order in which they
// are reckoned, so arguments from the left to the right, and behind them what is done
// with them.
type Expression struct {
	steps []step
}

// function is what the name of a function means.
type function struct {
	op   op
	args int
}

func functions() map[string]function {
	return map[string]function{
		"sqrt": {sqrt, 1},
		"sq":   {sq, 1},
		"abs":  {abs, 1},
		"min":  {least, 2},
		"max":  {greatest, 2},
	}
}

// Of is what the expression is for these variables, or the first error that is met:
// ErrName, ErrZero, ErrBelow. All that the map holds are intervals.
func (e Expression) Of(variables map[string]api.Interval) (api.Interval, api.Errno) {
	var done []api.Interval // and not yet used
	for _, s := range e.steps {
		rest := len(done) - s.args
		value, errno := s.of(done[rest:], variables)
		if errno != api.OK {
			return api.Interval{}, errno
		}
		done = append(done[:rest], value)
	}
	return done[0], api.OK
}

// HasOnly tells whether the expression has no variable but that one.
func (e Expression) HasOnly(name string) bool {
	for _, s := range e.steps {
		if s.op == variable && s.name != name {
			return false
		}
	}
	return true
}

// of is what one step comes to.
func (s step) of(args []api.Interval, variables map[string]api.Interval) (api.Interval, api.Errno) {
	switch s.op {
	case number:
		return s.value, api.OK
	case variable:
		value, ok := variables[s.name]
		if !ok {
			return api.Interval{}, api.ErrName
		}
		return spans.Plain(value), api.OK
	}
	if s.args == 1 {
		return ofOne(s.op, args[0])
	}
	return ofTwo(s.op, args[0], args[1])
}

func ofOne(do op, x api.Interval) (api.Interval, api.Errno) {
	switch do {
	case sqrt:
		return spans.Sqrt(x)
	case sq:
		return spans.Sq(x), api.OK
	case abs:
		return spans.Abs(x), api.OK
	default:
		return spans.Neg(x), api.OK
	}
}

func ofTwo(do op, x, y api.Interval) (api.Interval, api.Errno) {
	switch do {
	case div:
		return spans.Div(x, y)
	case mul:
		return spans.Mul(x, y), api.OK
	case sub:
		return spans.Sub(x, y), api.OK
	case least:
		return spans.Min(x, y), api.OK
	case greatest:
		return spans.Max(x, y), api.OK
	default:
		return spans.Add(x, y), api.OK
	}
}

// Package hedge: numbers between two float32, and what is reckoned with them: see DOC.md.
package hedge

import (
	"hedge/api"
	"hedge/cells"
	"hedge/expr"
	"hedge/spans"
)

// Add adds (P3).
func Add(a, b api.Interval) (api.Interval, api.Errno) {
	if !spans.Is(a) || !spans.Is(b) {
		return api.Interval{}, api.ErrInterval
	}
	return spans.Add(a, b), api.OK
}

// Sub takes away (P3).
func Sub(a, b api.Interval) (api.Interval, api.Errno) {
	if !spans.Is(a) || !spans.Is(b) {
		return api.Interval{}, api.ErrInterval
	}
	return spans.Sub(a, b), api.OK
}

// Mul multiplies (P3).
func Mul(a, b api.Interval) (api.Interval, api.Errno) {
	if !spans.Is(a) || !spans.Is(b) {
		return api.Interval{}, api.ErrInterval
	}
	return spans.Mul(a, b), api.OK
}

// Div divides (P4).
func Div(a, b api.Interval) (api.Interval, api.Errno) {
	if !spans.Is(a) || !spans.Is(b) {
		return api.Interval{}, api.ErrInterval
	}
	return spans.Div(a, b)
}

// Sqrt takes the root (P5).
func Sqrt(a api.Interval) (api.Interval, api.Errno) {
	if !spans.Is(a) {
		return api.Interval{}, api.ErrInterval
	}
	return spans.Sqrt(a)
}

// Check tells whether a text is an expression, and where it is not (P6).
func Check(text string) (api.Errno, int) {
	_, errno, place := expr.Read(text)
	return errno, place
}

// Eval reckons an expression (P7).
func Eval(text string, of map[string]api.Interval) (api.Interval, api.Errno) {
	e, errno, _ := expr.Read(text)
	if errno != api.OK {
		return api.Interval{}, errno
	}
	for _, i := range of {
		if !spans.Is(i) {
			return api.Interval{}, api.ErrInterval
		}
	}
	return e.Of(of)
}

// Integral tells between which numbers an integral lies (P8).
func Integral(text string, from int, to int, budget int) (api.Interval, api.Errno) {
	f, errno := onLine(text, from, to, budget)
	if errno != api.OK {
		return api.Interval{}, errno
	}
	return cells.Integral(f, from, to, budget)
}

// onLine is the expression in x that a text is, or the first error of these arguments.
func onLine(text string, from, to, budget int) (expr.Expression, api.Errno) {
	f, errno, _ := expr.Read(text)
	switch {
	case errno != api.OK:
		return expr.Expression{}, errno
	case from < -api.MaxEnd || from > to || to > api.MaxEnd:
		return expr.Expression{}, api.ErrEnds
	case budget < 0 || budget > api.MaxBudget:
		return expr.Expression{}, api.ErrBudget
	case !f.HasOnly("x"):
		return expr.Expression{}, api.ErrName
	}
	return f, api.OK
}

// Zeros tells where a function may be 0 (P9).
func Zeros(text string, from int, to int, budget int) ([]api.Interval, api.Errno) {
	f, errno := onLine(text, from, to, budget)
	if errno != api.OK {
		return nil, errno
	}
	return cells.Zeros(f, from, to, budget), api.OK
}

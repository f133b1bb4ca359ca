// Package spans: what is reckoned with intervals, end by end.
//
// All calls but Is take intervals only: whoever calls asks Is first.
package spans

import (
	"math"

	"hedge/api"
	"hedge/ends"
)

// Is tells whether i is an interval.
func Is(i api.Interval) bool {
	// A comparison with NaN is false, so the first one keeps it out, too.
	return i.Lo <= i.Hi && i.Lo <= math.MaxFloat32 && i.Hi >= -math.MaxFloat32
}

// Add is x + y.
func Add(x, y api.Interval) api.Interval {
	return api.Interval{Lo: ends.SumDown(x.Lo, y.Lo), Hi: ends.SumUp(x.Hi, y.Hi)}
}

// Sub is x - y.
func Sub(x, y api.Interval) api.Interval {
	return api.Interval{Lo: ends.SumDown(x.Lo, -y.Hi), Hi: ends.SumUp(x.Hi, -y.Lo)}
}

// Mul is x * y.
func Mul(x, y api.Interval) api.Interval {
	return around(
		ends.Product(x.Lo, y.Lo), ends.Product(x.Lo, y.Hi),
		ends.Product(x.Hi, y.Lo), ends.Product(x.Hi, y.Hi))
}

// Div is x / y, or ErrZero, if 0 is in y.
func Div(x, y api.Interval) (api.Interval, api.Errno) {
	if HasZero(y) {
		return api.Interval{}, api.ErrZero
	}
	return around(
		ends.Quotient(x.Lo, y.Lo), ends.Quotient(x.Lo, y.Hi),
		ends.Quotient(x.Hi, y.Lo), ends.Quotient(x.Hi, y.Hi)), api.OK
}

// Sqrt is the root of x, or ErrBelow, if some of x is below 0.
func Sqrt(x api.Interval) (api.Interval, api.Errno) {
	if x.Lo < 0 {
		return api.Interval{}, api.ErrBelow
	}
	return around(ends.Root(x.Lo), ends.Root(x.Hi)), api.OK
}

// Neg is -x.
func Neg(x api.Interval) api.Interval {
	return around(-float64(x.Hi), -float64(x.Lo))
}

// Abs is x without its sign.
func Abs(x api.Interval) api.Interval {
	switch {
	case x.Lo >= 0:
		return Plain(x)
	case x.Hi <= 0:
		return Neg(x)
	}
	return around(0, -float64(x.Lo), float64(x.Hi))
}

// Sq is x times itself, which is never below 0.
func Sq(x api.Interval) api.Interval {
	y := Abs(x)
	return around(ends.Product(y.Lo, y.Lo), ends.Product(y.Hi, y.Hi))
}

// Min is the lesser of x and y.
func Min(x, y api.Interval) api.Interval {
	return Plain(api.Interval{Lo: min(x.Lo, y.Lo), Hi: min(x.Hi, y.Hi)})
}

// Max is the greater of x and y.
func Max(x, y api.Interval) api.Interval {
	return Plain(api.Interval{Lo: max(x.Lo, y.Lo), Hi: max(x.Hi, y.Hi)})
}

// Plain is x with ends that may be told: a 0 has no minus.
func Plain(x api.Interval) api.Interval {
	return around(float64(x.Lo), float64(x.Hi))
}

// Ratio is what top divided by under lies between; under is not 0.
func Ratio(top, under float32) api.Interval {
	return around(ends.Quotient(top, under))
}

// HasZero tells whether 0 is in x.
func HasZero(x api.Interval) bool {
	return x.Lo <= 0 && x.Hi >= 0
}

// around is the least interval that has all these numbers.
func around(first float64, more ...float64) api.Interval {
	lo, hi := first, first
	for _, n := range more {
		lo, hi = min(lo, n), max(hi, n)
	}
	return api.Interval{Lo: ends.Down(lo), Hi: ends.Up(hi)}
}

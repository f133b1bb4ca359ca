// Package ends: float32 that real numbers lie between, from below and from above.
//
// What lies between two float32 is told by a float64 on its way: an exact one,
// or one that lies on the same side of every float32 as the truth does.
package ends

import "math"

// Down is x rounded down.
func Down(x float64) float32 {
	f := nearby(x)
	if float64(f) > x {
		f = math.Nextafter32(f, float32(math.Inf(-1)))
	}
	return withoutMinus(f)
}

// Up is x rounded up.
func Up(x float64) float32 {
	f := nearby(x)
	if float64(f) < x {
		f = math.Nextafter32(f, float32(math.Inf(1)))
	}
	return withoutMinus(f)
}

// nearby is a float next to x, on either side, or x itself if it is a float.
func nearby(x float64) float32 {
	// Go leaves open what the conversion of a number beyond all finite floats is.
	switch {
	case x > math.MaxFloat32:
		return float32(math.Inf(1))
	case x < -math.MaxFloat32:
		return float32(math.Inf(-1))
	}
	return float32(x)
}

// withoutMinus is f, but the 0 with a minus, which is never told.
func withoutMinus(f float32) float32 {
	if f == 0 {
		return 0
	}
	return f
}

// SumDown is x + y rounded down. It takes no two infinite ends of unlike signs.
func SumDown(x, y float32) float32 {
	sum, rest := sumAndRest(float64(x), float64(y))
	if rest < 0 {
		sum = math.Nextafter(sum, math.Inf(-1))
	}
	// Every float32 is a float64: so to round down twice is to round down once.
	return Down(sum)
}

// SumUp is x + y rounded up. It takes no two infinite ends of unlike signs.
func SumUp(x, y float32) float32 {
	sum, rest := sumAndRest(float64(x), float64(y))
	if rest > 0 {
		sum = math.Nextafter(sum, math.Inf(1))
	}
	return Up(sum)
}

// sumAndRest is the float64 nearest to x + y, and what it lacks, exactly.
// A sum of floats may be up to 278 bits long, so float64 alone does not tell it.
func sumAndRest(x, y float64) (sum, rest float64) {
	sum = x + y
	if math.IsInf(sum, 0) {
		return sum, 0
	}
	ofY := sum - x
	ofX := sum - ofY
	return sum, (x - ofX) + (y - ofY)
}

// Product is x * y, exactly: twice 24 bits find room in a float64.
func Product(x, y float32) float64 {
	// 0 times an infinite end is 0, which float64 calls NaN.
	if x == 0 || y == 0 {
		return 0
	}
	return float64(x) * float64(y)
}

// Quotient is a float64 that is rounded as x / y is; y is not 0.
//
// A float f that is not x / y is off by at least 2 to the -48 of it, as
// x - f * y has no bit below those of x and of f * y. The nearest float64 is off
// by 2 to the -53 at most: so it comes to no float that is not x / y itself.
func Quotient(x, y float32) float64 {
	// An infinite end divided by another is 0, which float64 calls NaN.
	if math.IsInf(float64(y), 0) {
		return 0
	}
	return float64(x) / float64(y)
}

// Root is a float64 that is rounded as the root of x is; x is not below 0.
//
// A float that is not the root is off by at least 2 to the -49 of it, for the
// same reason as with Quotient.
func Root(x float32) float64 {
	return math.Sqrt(float64(x))
}

package hedge_test

// What the document says of the four operations and the root, told once more with
// numbers of math/big that are wide enough, to hold the program against.

import (
	"math"
	"math/big"

	"hedge/api"
)

var inf = float32(math.Inf(1))

const (
	greatest = math.MaxFloat32
	least    = math.SmallestNonzeroFloat32
)

// iv is an interval of two floats.
func iv(lo, hi float32) api.Interval { return api.Interval{Lo: lo, Hi: hi} }

// wide is a number with room for what is reckoned with floats.
func wide() *big.Float { return new(big.Float).SetPrec(700) }

func exact(f float32) *big.Float { return wide().SetFloat64(float64(f)) }

func exactSum(x, y float32) *big.Float { return wide().Add(exact(x), exact(y)) }

func exactProduct(x, y float32) *big.Float {
	if x == 0 || y == 0 {
		return wide()
	}
	return wide().Mul(exact(x), exact(y))
}

func exactQuotient(x, y float32) *big.Float {
	if exact(y).IsInf() {
		return wide()
	}
	return wide().Quo(exact(x), exact(y))
}

func roundedDown(x *big.Float) float32 {
	f, side := x.Float32()
	if side == big.Above {
		f = math.Nextafter32(f, -inf)
	}
	return f + 0
}

func roundedUp(x *big.Float) float32 {
	f, side := x.Float32()
	if side == big.Below {
		f = math.Nextafter32(f, inf)
	}
	return f + 0
}

// among is the interval from the least to the greatest of what of tells of the ends.
func among(of func(x, y float32) *big.Float, a, b api.Interval) api.Interval {
	lo := of(a.Lo, b.Lo)
	hi := lo
	for _, n := range []*big.Float{of(a.Lo, b.Hi), of(a.Hi, b.Lo), of(a.Hi, b.Hi)} {
		if n.Cmp(lo) < 0 {
			lo = n
		}
		if n.Cmp(hi) > 0 {
			hi = n
		}
	}
	return iv(roundedDown(lo), roundedUp(hi))
}

// isInterval says in other words what an interval is.
func isInterval(i api.Interval) bool {
	if i.Lo != i.Lo || i.Hi != i.Hi || i.Lo == inf || i.Hi == -inf {
		return false
	}
	return !(i.Lo > i.Hi)
}

func wantAdd(a, b api.Interval) (api.Interval, api.Errno) {
	if !isInterval(a) || !isInterval(b) {
		return api.Interval{}, api.ErrInterval
	}
	return iv(roundedDown(exactSum(a.Lo, b.Lo)), roundedUp(exactSum(a.Hi, b.Hi))), api.OK
}

func wantSub(a, b api.Interval) (api.Interval, api.Errno) {
	return wantAdd(a, iv(-b.Hi, -b.Lo))
}

func wantMul(a, b api.Interval) (api.Interval, api.Errno) {
	if !isInterval(a) || !isInterval(b) {
		return api.Interval{}, api.ErrInterval
	}
	return among(exactProduct, a, b), api.OK
}

func wantDiv(a, b api.Interval) (api.Interval, api.Errno) {
	if !isInterval(a) || !isInterval(b) {
		return api.Interval{}, api.ErrInterval
	}
	if !(b.Lo > 0) && !(b.Hi < 0) {
		return api.Interval{}, api.ErrZero
	}
	return among(exactQuotient, a, b), api.OK
}

func wantSqrt(a api.Interval) (api.Interval, api.Errno) {
	if !isInterval(a) {
		return api.Interval{}, api.ErrInterval
	}
	if a.Lo < 0 {
		return api.Interval{}, api.ErrBelow
	}
	return iv(roundedDown(exactRoot(a.Lo)), roundedUp(exactRoot(a.Hi))), api.OK
}

func exactRoot(x float32) *big.Float { return wide().Sqrt(exact(x)) }

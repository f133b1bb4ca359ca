package spans

import (
	"math"
	"testing"

	"hedge/api"
)

func TestIs(t *testing.T) {
	inf := float32(math.Inf(1))
	nan := float32(math.NaN())
	zero := float32(math.Copysign(0, -1))
	for _, c := range []struct {
		lo, hi float32
		want   bool
	}{
		{1, 2, true}, {1, 1, true}, {0, zero, true}, {zero, 0, true},
		{-inf, inf, true}, {-inf, 0, true}, {0, inf, true},
		{-inf, -math.MaxFloat32, true}, {math.MaxFloat32, inf, true},
		{2, 1, false}, {1, math.Nextafter32(1, 0), false},
		{inf, inf, false}, {-inf, -inf, false}, {inf, -inf, false},
		{inf, 1, false}, {1, -inf, false},
		{nan, 1, false}, {1, nan, false}, {nan, nan, false}, {nan, inf, false}, {-inf, nan, false},
	} {
		if got := Is(api.Interval{Lo: c.lo, Hi: c.hi}); got != c.want {
			t.Errorf("Is(%v..%v) = %v", c.lo, c.hi, got)
		}
	}
}

func TestAround(t *testing.T) {
	got := around(0.5, 3, -1, 2)
	if got != (api.Interval{Lo: -1, Hi: 3}) {
		t.Errorf("around = %v", got)
	}
	third := around(1.0 / 3)
	if third.Lo >= third.Hi || math.Nextafter32(third.Lo, 1) != third.Hi {
		t.Errorf("around a third = %v", third)
	}
}

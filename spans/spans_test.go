package spans

import (
	"math"
	"testing"

	"hedge/api"
)

func TestIs(t *testing.T) {
	inf := float32(math.Inf(1))
	nan := float32(math.NaN())
	zero := float32(math.Copysign(0, -1))
	for _, c := range []struct {
		lo, hi float32
		want   bool
	}{
		{1, 2, true}, {1, 1, true}, {0, zero, true}, {zero, 0, true},
		{-inf, inf, true}, {-inf, 0, true}, {0, inf, true},
		{-inf, -math.MaxFloat32, true}, {math.MaxFloat32, inf, true},
		{2, 1, false}, {1, math.Nextafter32(1, 0), false},
		{inf, inf, false}, {-inf, -inf, false}, {inf, -inf, false},
		{inf, 1, false}, {1, -inf, false},
		{nan, 1, false}, {1, nan, false}, {nan, nan, false}, {nan, inf, false}, {-inf, nan, false},
	} {
		if got := Is(api.Interval{Lo: c.lo, Hi: c.hi}); got != c.want {
			t.Errorf("Is(%v..%v) = %v", c.lo, c.hi, got)
		}
	}
}

func TestAround(t *testing.T) {
	got := around(0.5, 3, -1, 2)
	if got != (api.Interval{Lo: -1, Hi: 3}) {
		t.Errorf("around = %v", got)
	}
	third := around(1.0 / 3)
	if third.Lo >= third.Hi || math.Nextafter32(third.Lo, 1) != third.Hi {
		t.Errorf("around a third = %v", third)
	}
}

// TestEnds has the operations that hedge tells only by way of texts.
func TestEnds(t *testing.T) {
	inf := float32(math.Inf(1))
	zero := float32(math.Copysign(0, -1))
	const least, greatest = math.SmallestNonzeroFloat32, math.MaxFloat32
	up := math.Nextafter32(1, 2)
	of := func(lo, hi float32) api.Interval { return api.Interval{Lo: lo, Hi: hi} }
	for _, c := range []struct {
		name      string
		got, want api.Interval
	}{
		{"Neg", Neg(of(1, 2)), of(-2, -1)},
		{"Neg", Neg(of(-1, 2)), of(-2, 1)},
		{"Neg", Neg(of(0, 0)), of(0, 0)},
		{"Neg", Neg(of(0, 3)), of(-3, 0)},
		{"Neg", Neg(of(zero, zero)), of(0, 0)},
		{"Neg", Neg(of(-inf, 3)), of(-3, inf)},
		{"Neg", Neg(of(-inf, inf)), of(-inf, inf)},
		{"Abs", Abs(of(1, 2)), of(1, 2)},
		{"Abs", Abs(of(-2, -1)), of(1, 2)},
		{"Abs", Abs(of(-2, 1)), of(0, 2)},
		{"Abs", Abs(of(-1, 2)), of(0, 2)},
		{"Abs", Abs(of(zero, 2)), of(0, 2)},
		{"Abs", Abs(of(-2, zero)), of(0, 2)},
		{"Abs", Abs(of(zero, zero)), of(0, 0)},
		{"Abs", Abs(of(-inf, 1)), of(0, inf)},
		{"Abs", Abs(of(-1, inf)), of(0, inf)},
		{"Abs", Abs(of(-inf, -1)), of(1, inf)},
		{"Sq", Sq(of(2, 3)), of(4, 9)},
		{"Sq", Sq(of(-3, -2)), of(4, 9)},
		{"Sq", Sq(of(-3, 2)), of(0, 9)},
		{"Sq", Sq(of(zero, zero)), of(0, 0)},
		{"Sq", Sq(of(-inf, -2)), of(4, inf)},
		{"Sq", Sq(of(greatest, greatest)), of(greatest, inf)},
		{"Sq", Sq(of(-least, -least)), of(0, least)},
		{"Sq", Sq(of(up, up)), of(1+0x1p-22, 1+0x1p-22+0x1p-23)},
		{"Min", Min(of(1, 4), of(2, 3)), of(1, 3)},
		{"Min", Min(of(2, 3), of(1, 4)), of(1, 3)},
		{"Min", Min(of(-inf, 3), of(1, inf)), of(-inf, 3)},
		{"Min", Min(of(0, 0), of(zero, zero)), of(0, 0)},
		{"Max", Max(of(1, 4), of(2, 3)), of(2, 4)},
		{"Max", Max(of(2, 3), of(1, 4)), of(2, 4)},
		{"Max", Max(of(-inf, 3), of(1, inf)), of(1, inf)},
		{"Max", Max(of(zero, zero), of(zero, zero)), of(0, 0)},
		{"Plain", Plain(of(zero, zero)), of(0, 0)},
		{"Plain", Plain(of(zero, 5)), of(0, 5)},
		{"Plain", Plain(of(-5, zero)), of(-5, 0)},
		{"Plain", Plain(of(-inf, least)), of(-inf, least)},
		{"Ratio", Ratio(1, 3), api.Of(0x3eaaaaaa, 0x3eaaaaab)},
		{"Ratio", Ratio(1, 4), of(0.25, 0.25)},
	} {
		gotLo, gotHi := c.got.Bits()
		wantLo, wantHi := c.want.Bits()
		if gotLo != wantLo || gotHi != wantHi {
			t.Errorf("%s = %v, want %v", c.name, c.got, c.want)
		}
	}
}

package hedge_test

import (
	"math"
	"math/rand"
	"testing"

	"hedge/api"
	"hedge/hedge"
)

type two func(a, b api.Interval) (api.Interval, api.Errno)

// twos is the calls with two intervals, each beside what the document says of it.
func twos() []struct {
	name       string
	call, want two
} {
	return []struct {
		name       string
		call, want two
	}{
		{"P3: Add", hedge.Add, wantAdd},
		{"P3: Sub", hedge.Sub, wantSub},
		{"P3: Mul", hedge.Mul, wantMul},
		{"P4: Div", hedge.Div, wantDiv},
	}
}

// same compares by the bits, so that the 0 with a minus is seen.
func same(a, b api.Interval) bool {
	aLo, aHi := a.Bits()
	bLo, bHi := b.Bits()
	return aLo == bLo && aHi == bHi
}

func minusZero() float32 { return float32(math.Copysign(0, -1)) }

// edges is the floats at which something may go wrong.
func edges() []float32 {
	up := []float32{
		0, least, 2 * least, 3 * least,
		math.Nextafter32(0x1p-126, 0), 0x1p-126, 0x1p-75, 0x1p-74,
		math.Nextafter32(1, 0), 1, math.Nextafter32(1, 2), 3,
		1<<24 - 1, 1 << 24, 0x1p64,
		math.Nextafter32(greatest, 0), greatest, inf,
	}
	out := append([]float32{}, up...)
	for _, f := range up {
		out = append(out, -f)
	}
	return append(out[:len(out):len(out)], minusZero(), float32(math.NaN()))
}

// pairs is all pairs of edges: intervals, and such as are none.
func pairs() (good, bad []api.Interval) {
	for _, lo := range edges() {
		for _, hi := range edges() {
			if i := iv(lo, hi); isInterval(i) {
				good = append(good, i)
			} else {
				bad = append(bad, i)
			}
		}
	}
	return good, bad
}

func checkTwo(t *testing.T, name string, call, want two, a, b api.Interval) {
	t.Helper()
	got, e := call(a, b)
	should, f := want(a, b)
	if e != f || !same(got, should) {
		t.Errorf("%s(%v, %v) = %v, %d, want %v, %d", name, a, b, got, e, should, f)
	}
}

func checkSqrt(t *testing.T, a api.Interval) {
	t.Helper()
	got, e := hedge.Sqrt(a)
	should, f := wantSqrt(a)
	if e != f || !same(got, should) {
		t.Errorf("P5: Sqrt(%v) = %v, %d, want %v, %d", a, got, e, should, f)
	}
}

// TestExamples has the first row of the document's section 'Examples'.
func TestExamples(t *testing.T) {
	none := api.Interval{}
	third := api.Of(0x3eaaaaaa, 0x3eaaaaab)
	for _, c := range []struct {
		name string
		call two
		a, b api.Interval
		want api.Interval
		e    api.Errno
	}{
		{"Add", hedge.Add, iv(1, 2), iv(3, 4), iv(4, 6), api.OK},
		{"Add", hedge.Add, iv(1, 1), iv(least, least), iv(1, math.Nextafter32(1, 2)), api.OK},
		{"Sub", hedge.Sub, iv(1, 2), iv(3, 4), iv(-3, -1), api.OK},
		{"Mul", hedge.Mul, iv(-1, 2), iv(3, 4), iv(-4, 8), api.OK},
		{"Div", hedge.Div, iv(1, 1), iv(3, 3), third, api.OK},
		{"Div", hedge.Div, iv(1, 1), iv(3, 3), iv(11184810*0x1p-25, 11184811*0x1p-25), api.OK},
		{"Div", hedge.Div, iv(1, 2), iv(0, 1), none, api.ErrZero},
		{"Mul", hedge.Mul, iv(0, 0), iv(-inf, inf), iv(0, 0), api.OK},
		{"Add", hedge.Add, iv(greatest, greatest), iv(greatest, greatest), iv(greatest, inf), api.OK},
	} {
		got, e := c.call(c.a, c.b)
		if e != c.e || !same(got, c.want) {
			t.Errorf("%s(%v, %v) = %v, %d, want %v, %d", c.name, c.a, c.b, got, e, c.want, c.e)
		}
	}
	got, e := hedge.Sqrt(iv(2, 2))
	if e != api.OK || got.Hi != math.Nextafter32(got.Lo, inf) || float64(got.Lo) >= math.Sqrt2 || float64(got.Hi) <= math.Sqrt2 {
		t.Errorf("Sqrt(2..2) = %v, %d", got, e)
	}
	got, e = hedge.Sqrt(iv(-1, 4))
	if e != api.ErrBelow || !same(got, none) {
		t.Errorf("Sqrt(-1..4) = %v, %d", got, e)
	}
}

// TestInfiniteEnds has what the document says of them, one by one.
func TestInfiniteEnds(t *testing.T) {
	for _, c := range []struct {
		name string
		call two
		a, b api.Interval
		want api.Interval
	}{
		{"Add", hedge.Add, iv(-inf, 1), iv(greatest, greatest), iv(-inf, inf)},
		{"Add", hedge.Add, iv(-inf, 1), iv(2, 3), iv(-inf, 4)},
		{"Add", hedge.Add, iv(-inf, inf), iv(-inf, inf), iv(-inf, inf)},
		{"Sub", hedge.Sub, iv(1, inf), iv(-inf, 3), iv(-2, inf)},
		{"Sub", hedge.Sub, iv(1, inf), iv(3, inf), iv(-inf, inf)},
		{"Mul", hedge.Mul, iv(0, 2), iv(3, inf), iv(0, inf)},
		{"Mul", hedge.Mul, iv(-2, 0), iv(3, inf), iv(-inf, 0)},
		{"Mul", hedge.Mul, iv(minusZero(), minusZero()), iv(-inf, inf), iv(0, 0)},
		{"Mul", hedge.Mul, iv(-inf, -2), iv(-inf, -3), iv(6, inf)},
		{"Mul", hedge.Mul, iv(-inf, -2), iv(3, inf), iv(-inf, -6)},
		{"Div", hedge.Div, iv(1, 2), iv(4, inf), iv(0, 0.5)},
		{"Div", hedge.Div, iv(1, 2), iv(-inf, -4), iv(-0.5, 0)},
		{"Div", hedge.Div, iv(1, inf), iv(2, inf), iv(0, inf)},
		{"Div", hedge.Div, iv(1, inf), iv(2, 4), iv(0.25, inf)},
		{"Div", hedge.Div, iv(1, inf), iv(-4, -2), iv(-inf, -0.25)},
		{"Div", hedge.Div, iv(-inf, -1), iv(-inf, -2), iv(0, inf)},
		{"Div", hedge.Div, iv(-inf, inf), iv(1, 1), iv(-inf, inf)},
	} {
		got, e := c.call(c.a, c.b)
		if e != api.OK || !same(got, c.want) {
			t.Errorf("%s(%v, %v) = %v, %d, want %v", c.name, c.a, c.b, got, e, c.want)
		}
	}
}

// TestAllEdges holds the calls against the document at all intervals of edges.
func TestAllEdges(t *testing.T) {
	good, _ := pairs()
	for i, a := range good {
		checkSqrt(t, a)
		// Each with a seventh of the others only, so that the tests stay quick.
		for j := i % 7; j < len(good); j += 7 {
			for _, c := range twos() {
				checkTwo(t, c.name, c.call, c.want, a, good[j])
			}
		}
	}
	for _, x := range edges() {
		for _, y := range edges() {
			for _, c := range twos() {
				checkTwo(t, c.name, c.call, c.want, iv(x, x), iv(y, y))
			}
		}
	}
}

// TestNoIntervals: ErrInterval comes ahead of ErrZero and ErrBelow, and with nothing beside it.
func TestNoIntervals(t *testing.T) {
	_, bad := pairs()
	others := append([]api.Interval{iv(1, 2), iv(0, 0), iv(-1, 1), iv(-inf, inf)}, bad[:5]...)
	for _, x := range bad {
		for _, c := range twos() {
			for _, o := range others {
				if got, e := c.call(x, o); e != api.ErrInterval || !same(got, api.Interval{}) {
					t.Errorf("%s(%v, %v) = %v, %d", c.name, x, o, got, e)
				}
				if got, e := c.call(o, x); e != api.ErrInterval || !same(got, api.Interval{}) {
					t.Errorf("%s(%v, %v) = %v, %d", c.name, o, x, got, e)
				}
			}
		}
		if got, e := hedge.Sqrt(x); e != api.ErrInterval || !same(got, api.Interval{}) {
			t.Errorf("P5: Sqrt(%v) = %v, %d", x, got, e)
		}
	}
}

func TestZeroInDivisor(t *testing.T) {
	z := minusZero()
	for _, b := range []api.Interval{
		iv(0, 0), iv(z, z), iv(z, 0), iv(0, z), iv(0, 1), iv(z, 1), iv(-1, 0), iv(-1, z),
		iv(-1, 1), iv(-least, least), iv(0, least), iv(-least, 0), iv(-inf, inf), iv(0, inf), iv(-inf, 0),
	} {
		for _, a := range []api.Interval{iv(1, 2), iv(0, 0), iv(-inf, inf)} {
			if got, e := hedge.Div(a, b); e != api.ErrZero || !same(got, api.Interval{}) {
				t.Errorf("P4: Div(%v, %v) = %v, %d", a, b, got, e)
			}
		}
	}
	for _, b := range []api.Interval{iv(least, least), iv(-least, -least), iv(least, inf), iv(-inf, -least)} {
		if got, e := hedge.Div(iv(1, 2), b); e != api.OK {
			t.Errorf("P4: Div(1..2, %v) = %v, %d", b, got, e)
		}
	}
}

func TestRoots(t *testing.T) {
	z := minusZero()
	for _, c := range []struct {
		a, want api.Interval
		e       api.Errno
	}{
		{iv(4, 9), iv(2, 3), api.OK},
		{iv(0, 0), iv(0, 0), api.OK},
		{iv(z, z), iv(0, 0), api.OK},
		{iv(z, 4), iv(0, 2), api.OK},
		{iv(0, inf), iv(0, inf), api.OK},
		{iv(0x1p-148, 0x1p-148), iv(0x1p-74, 0x1p-74), api.OK},
		{iv(least, least), api.Of(0x1a3504f3, 0x1a3504f4), api.OK},
		{iv(greatest, greatest), iv(math.Nextafter32(0x1p64, 0), 0x1p64), api.OK},
		{iv(-least, 0), iv(0, 0), api.ErrBelow},
		{iv(-inf, inf), iv(0, 0), api.ErrBelow},
		{iv(-4, -1), iv(0, 0), api.ErrBelow},
	} {
		if got, e := hedge.Sqrt(c.a); e != c.e || !same(got, c.want) {
			t.Errorf("P5: Sqrt(%v) = %v, %d, want %v, %d", c.a, got, e, c.want, c.e)
		}
	}
}

// draw is an interval: of any two floats, or of two that are near each other.
func draw(r *rand.Rand) api.Interval {
	for {
		a := math.Float32frombits(r.Uint32())
		b := math.Float32frombits(r.Uint32())
		switch r.Intn(3) {
		case 0:
			b = a
		case 1:
			b = math.Float32frombits(math.Float32bits(a) ^ r.Uint32()>>uint(9+r.Intn(20)))
		}
		if b < a {
			a, b = b, a
		}
		if i := iv(a, b); isInterval(i) {
			return i
		}
	}
}

func TestDrawn(t *testing.T) {
	r := rand.New(rand.NewSource(2))
	for range 10000 {
		a, b := draw(r), draw(r)
		for _, c := range twos() {
			checkTwo(t, c.name, c.call, c.want, a, b)
		}
		checkSqrt(t, a)
	}
}

// TestAroundFloats: products, quotients and roots that miss a float by as little as may be.
func TestAroundFloats(t *testing.T) {
	r := rand.New(rand.NewSource(3))
	for range 10000 {
		x := float32(1<<23 + r.Intn(1<<23))
		y := float32(1<<23 + r.Intn(1<<23))
		near := float32(float64(x) * float64(y))
		for _, f := range []float32{near, math.Nextafter32(near, 0), math.Nextafter32(near, inf)} {
			checkTwo(t, "P4: Div", hedge.Div, wantDiv, iv(f, f), iv(y, y))
			checkTwo(t, "P4: Div", hedge.Div, wantDiv, iv(-f, f), iv(y, y))
		}
		checkTwo(t, "P3: Mul", hedge.Mul, wantMul, iv(x, x), iv(-y, y))
		square := float32(float64(x) * float64(x))
		for _, f := range []float32{square, math.Nextafter32(square, 0), math.Nextafter32(square, inf)} {
			checkSqrt(t, iv(f, f))
		}
	}
}

// TestSameAgain: what is told hangs on the arguments alone (P2).
func TestSameAgain(t *testing.T) {
	r := rand.New(rand.NewSource(4))
	for range 200 {
		a, b, other := draw(r), draw(r), draw(r)
		for _, c := range twos() {
			first, e := c.call(a, b)
			for _, d := range twos() {
				d.call(other, a)
			}
			hedge.Sqrt(other)
			if again, f := c.call(a, b); e != f || !same(first, again) {
				t.Errorf("P2: %s(%v, %v) = %v, %d, then %v, %d", c.name, a, b, first, e, again, f)
			}
		}
	}
}

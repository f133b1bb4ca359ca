package ends

import (
	"math"
	"math/rand"
	"testing"
)

var (
	inf       = math.Inf(1)
	inf32     = float32(inf)
	minusZero = math.Copysign(0, -1)
)

const (
	greatest = math.MaxFloat32
	least    = math.SmallestNonzeroFloat32
)

// same compares by the bits, so that the 0 with a minus is seen.
func same(a, b float32) bool { return math.Float32bits(a) == math.Float32bits(b) }

func TestDownAndUp(t *testing.T) {
	after1 := math.Nextafter32(1, 2)
	before1 := math.Nextafter32(1, 0)
	for _, c := range []struct {
		x        float64
		down, up float32
	}{
		{0, 0, 0},
		{minusZero, 0, 0},
		{1, 1, 1},
		{-2.5, -2.5, -2.5},
		{math.Nextafter(1, 2), 1, after1},
		{math.Nextafter(1, 0), before1, 1},
		{math.Nextafter(-1, -2), -after1, -1},
		{math.Nextafter(-1, 0), -1, -before1},
		{math.Nextafter(float64(after1), 0), 1, after1},
		{math.Nextafter(float64(before1), 2), before1, 1},
		{least, least, least},
		{least / 2, 0, least},
		{least / 4, 0, least},
		{least * 0.75, 0, least},
		{-least / 2, -least, 0},
		{-least / 4, -least, 0},
		{-least * 0.75, -least, 0},
		{math.SmallestNonzeroFloat64, 0, least},
		{-math.SmallestNonzeroFloat64, -least, 0},
		{least * 1.5, least, 2 * least},
		{greatest, greatest, greatest},
		{-greatest, -greatest, -greatest},
		{math.Nextafter(greatest, inf), greatest, inf32},
		{math.Nextafter(-greatest, -inf), -inf32, -greatest},
		{0x1p128, greatest, inf32},
		{-0x1p128, -inf32, -greatest},
		{math.MaxFloat64, greatest, inf32},
		{-math.MaxFloat64, -inf32, -greatest},
		{inf, inf32, inf32},
		{-inf, -inf32, -inf32},
	} {
		if got := Down(c.x); !same(got, c.down) {
			t.Errorf("Down(%v) = %v, want %v", c.x, got, c.down)
		}
		if got := Up(c.x); !same(got, c.up) {
			t.Errorf("Up(%v) = %v, want %v", c.x, got, c.up)
		}
	}
}

// TestDownAndUpDrawn holds both against what their words mean.
func TestDownAndUpDrawn(t *testing.T) {
	r := rand.New(rand.NewSource(1))
	for range 100000 {
		f := math.Float32frombits(r.Uint32())
		if f != f {
			continue
		}
		x := math.Float64frombits(math.Float64bits(float64(f)) ^ uint64(r.Int63())>>uint(35+r.Intn(28)))
		if x != x {
			continue
		}
		down, up := Down(x), Up(x)
		if float64(down) > x || down != inf32 && float64(math.Nextafter32(down, inf32)) <= x {
			t.Errorf("Down(%v) = %v", x, down)
		}
		if float64(up) < x || up != -inf32 && float64(math.Nextafter32(up, -inf32)) >= x {
			t.Errorf("Up(%v) = %v", x, up)
		}
	}
}

func TestSum(t *testing.T) {
	next := math.Nextafter32
	for _, c := range []struct {
		x, y, down, up float32
	}{
		{1, 2, 3, 3},
		{1, -1, 0, 0},
		{1, least, 1, next(1, 2)},
		{1, -least, next(1, 0), 1},
		{-1, least, -1, next(-1, 0)},
		{-1, -least, next(-1, -2), -1},
		{least, least, 2 * least, 2 * least},
		{least, -least, 0, 0},
		{greatest, least, greatest, inf32},
		{greatest, -least, next(greatest, 0), greatest},
		{-greatest, -least, -inf32, -greatest},
		{greatest, greatest, greatest, inf32},
		{greatest, -greatest, 0, 0},
		{1 << 24, 1, 1 << 24, 1<<24 + 2},
		{inf32, -greatest, inf32, inf32},
		{-inf32, greatest, -inf32, -inf32},
		{inf32, inf32, inf32, inf32},
		{-inf32, -inf32, -inf32, -inf32},
		{float32(minusZero), float32(minusZero), 0, 0},
	} {
		for _, o := range [][2]float32{{c.x, c.y}, {c.y, c.x}} {
			if got := SumDown(o[0], o[1]); !same(got, c.down) {
				t.Errorf("SumDown(%v, %v) = %v, want %v", o[0], o[1], got, c.down)
			}
			if got := SumUp(o[0], o[1]); !same(got, c.up) {
				t.Errorf("SumUp(%v, %v) = %v, want %v", o[0], o[1], got, c.up)
			}
		}
	}
}

func TestInfiniteProductsAndQuotients(t *testing.T) {
	for _, c := range []struct {
		x, y          float32
		product, over float64
	}{
		{2, inf32, inf, 0},
		{-2, inf32, -inf, 0},
		{2, -inf32, -inf, 0},
		{0, inf32, 0, 0},
		{0, -inf32, 0, 0},
		{inf32, inf32, inf, 0},
		{-inf32, inf32, -inf, 0},
		{-inf32, -inf32, inf, 0},
		{inf32, least, inf, inf},
		{-inf32, least, -inf, -inf},
		{inf32, -3, -inf, -inf},
		{-inf32, -3, inf, inf},
	} {
		if got := Product(c.x, c.y); got != c.product {
			t.Errorf("Product(%v, %v) = %v, want %v", c.x, c.y, got, c.product)
		}
		if got := Quotient(c.x, c.y); got != c.over {
			t.Errorf("Quotient(%v, %v) = %v, want %v", c.x, c.y, got, c.over)
		}
	}
	if got := Product(inf32, 0); got != 0 {
		t.Errorf("Product(inf, 0) = %v", got)
	}
	if got := Root(inf32); got != inf {
		t.Errorf("Root(inf) = %v", got)
	}
}

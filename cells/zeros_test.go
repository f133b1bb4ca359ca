package cells

import (
	"math"
	"slices"
	"testing"

	"hedge/api"
)

// row is cells side by side from 0 on, of these widths; those below 0 are of cells that are
// clear, without the minus.
func row(widths ...float64) []cell {
	var line []cell
	at := 0.0
	for _, w := range widths {
		value := api.Interval{Lo: -1, Hi: 1}
		if w < 0 {
			w, value = -w, api.Interval{Lo: 1, Hi: 2}
		}
		line = append(line, cell{left: at, right: at + w, value: value, said: true})
		at += w
	}
	return line
}

func TestIsClear(t *testing.T) {
	inf := float32(math.Inf(1))
	minusZero := float32(math.Copysign(0, -1))
	for _, c := range []struct {
		lo, hi float32
		clear  bool
	}{
		{1, 2, true}, {-2, -1, true}, {-1, 1, false}, {0, 1, false}, {-1, 0, false}, {0, 0, false}, {minusZero, 1, false}, {-1, minusZero, false}, {minusZero, minusZero, false},
		{math.SmallestNonzeroFloat32, 1, true}, {-1, -math.SmallestNonzeroFloat32, true}, {math.MaxFloat32, inf, true}, {-inf, -math.MaxFloat32, true}, {-inf, inf, false}, {0, inf, false}, {-inf, 0, false},
	} {
		value := api.Interval{Lo: c.lo, Hi: c.hi}
		if got := (cell{right: 1, value: value, said: true}).isClear(); got != c.clear {
			t.Errorf("isClear with %v = %v", value, got)
		}
		if (cell{right: 1, value: value}).isClear() {
			t.Errorf("isClear, of which nothing can be said, with %v", value)
		}
	}
}

func TestWidest(t *testing.T) {
	for _, c := range []struct {
		line  []cell
		place int
		found bool
	}{
		{row(1), 0, true}, {row(1, 1), 0, true}, {row(1, 2, 2, 1), 1, true}, {row(2, 1, 2), 0, true}, {row(1, 2, 4), 2, true}, {row(4, 2, 1), 0, true},
		{row(-8, 1, -8, 2, 2), 3, true}, {row(-8, -8, 1), 2, true}, {row(1, -8), 0, true}, {row(0, 0), 0, true}, {row(-1, 0), 1, true},
		{row(-1), 0, false}, {row(-4, -2, -2), 0, false}, {nil, 0, false},
	} {
		if place, found := widest(c.line); place != c.place || found != c.found {
			t.Errorf("widest(%v) = %d, %v, want %d, %v", c.line, place, found, c.place, c.found)
		}
	}
	// What can be said of cells does not count, but for its 0.
	line := row(1, 2, 2)
	line[0].said, line[2].said, line[2].value.Hi = false, false, 9
	if place, found := widest(line); place != 1 || !found {
		t.Errorf("widest(%v) = %d, %v", line, place, found)
	}
}

func TestUnclear(t *testing.T) {
	next := math.Nextafter32(1, 2)
	for _, c := range []struct {
		line []cell
		want []api.Interval
	}{
		{row(-1, -2), nil}, {row(1), []api.Interval{{Lo: 0, Hi: 1}}}, {row(1, 2, 3), []api.Interval{{Lo: 0, Hi: 6}}}, {row(1, -2, 3), []api.Interval{{Lo: 0, Hi: 1}, {Lo: 3, Hi: 6}}}, {row(-1, 2, 3, -4), []api.Interval{{Lo: 1, Hi: 6}}},
		{row(1, 1, -1, -1, 1, 1, -1, 1), []api.Interval{{Lo: 0, Hi: 2}, {Lo: 4, Hi: 6}, {Lo: 7, Hi: 8}}}, {row(0, 0), []api.Interval{{Lo: 0, Hi: 0}}},
		// Between 1 and the next float lie ends that are none.
		{row(-1, 0x1p-30), []api.Interval{{Lo: 1, Hi: next}}}, {row(-1-0x1p-30, 0x1p-30, 0x1p-30), []api.Interval{{Lo: 1, Hi: next}}}, {row(-1, 0x1p-30, -0x1p-30, 0x1p-30), []api.Interval{{Lo: 1, Hi: next}, {Lo: 1, Hi: next}}},
	} {
		if got := unclear(c.line); !slices.Equal(got, c.want) {
			t.Errorf("unclear(%v) = %v, want %v", c.line, got, c.want)
		}
	}
}

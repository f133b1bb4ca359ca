package cells

import (
	"math"
	"testing"

	"hedge/api"
	"hedge/expr"
)

func read(t *testing.T, text string) expr.Expression {
	t.Helper()
	f, errno, place := expr.Read(text)
	if errno != api.OK {
		t.Fatalf("Read(%q): %d at %d", text, errno, place)
	}
	return f
}

// TestWorse has pairs of cells, the first of which is cut ahead of the second, or neither.
func TestWorse(t *testing.T) {
	inf := float32(math.Inf(1))
	said := func(right float64, lo, hi float32) cell {
		return cell{right: right, value: api.Interval{Lo: lo, Hi: hi}, said: true}
	}
	for _, c := range []struct {
		name       string
		one, other cell
		worse      bool
	}{
		{"nothing said, though narrow", cell{right: 1}, said(8, -inf, inf), true},
		{"nothing said, and wide", cell{right: 8}, said(1, 0, 0), true},
		{"nothing said of both", cell{right: 2}, cell{left: 2, right: 3}, true},
		{"nothing said of both, alike", cell{right: 2}, cell{left: 2, right: 4}, false},
		{"the value alone is wider", said(1, 0, 3), said(1, 0, 2), true},
		{"the width alone is wider", said(2, 0, 3), said(1, 0, 3), true},
		{"narrow, but much in doubt", said(1, 0, 9), said(2, 0, 4), true},
		{"doubts of unlike cells, alike", said(1, 0, 4), said(2, 5, 7), false},
		{"great worths in little doubt", said(1, 0, 1), said(1, 8, 8), true},
		{"both infinite", said(1, 0, inf), said(8, -inf, inf), false},
		{"infinite once rounded up", said(1, -math.MaxFloat32, math.MaxFloat32), said(1, -inf, 0), false},
		{"infinite and finite", said(1, 0, inf), said(8, 0, 1e37), true},
		{"no width, so no doubt", said(1, 0, 1e-40), said(0, -inf, inf), true},
	} {
		if c.one.worse(c.other) != c.worse || c.other.worse(c.one) {
			t.Errorf("%s: %v, %v", c.name, c.one.worse(c.other), c.other.worse(c.one))
		}
	}
}

// TestDoubt is rounded up.
func TestDoubt(t *testing.T) {
	c := cell{right: 1, value: api.Interval{Lo: -0x1p-60, Hi: 1}, said: true}
	if got := c.doubt(); got != math.Nextafter32(1, 2) {
		t.Errorf("doubt = %v", got)
	}
	c.value.Lo = 0x1p-60
	if got := c.doubt(); got != 1 {
		t.Errorf("doubt = %v", got)
	}
}

// TestCut: as deep as cuts go, at the far ends of the line, all cells stay exact.
func TestCut(t *testing.T) {
	f := read(t, "1 / 0")
	for _, from := range []int{-api.MaxEnd, -1, 1, api.MaxEnd - 3} {
		line := []cell{of(f, float64(from)/api.Parts, float64(from+3)/api.Parts)}
		width := line[0].width()
		for n := range api.MaxBudget {
			line = cut(f, line, n)
			width /= 2
			l, r := line[n], line[n+1]
			if len(line) != n+2 || l.width() != width || r.width() != width || l.right != r.left || r.right != float64(from+3)/api.Parts {
				t.Fatalf("from %d, cut %d: %v, %v", from, n, l, r)
			}
		}
	}
}

package hedge_test

import (
	"math"
	"math/big"
	"math/rand"
	"strconv"
	"strings"
	"testing"

	"hedge/api"
	"hedge/hedge"
)

// huge is an expression that is greatest..inf: it stands where worths must be infinite.
const huge = "sq(sq(sq(9999999)))"

// stretch is a cell, told once more: its ends are fractions.
type stretch struct {
	left, right *big.Rat
	f           api.Interval
	e           api.Errno
}

func newStretch(text string, left, right *big.Rat) stretch {
	x := iv(roundedDown(wide().SetRat(left)), roundedUp(wide().SetRat(right)))
	f, e := hedge.Eval(text, map[string]api.Interval{"x": x})
	return stretch{left, right, f, e}
}

func (p stretch) width() *big.Rat { return new(big.Rat).Sub(p.right, p.left) }

func (p stretch) worth() api.Interval {
	w, side := wide().SetRat(p.width()).Float32()
	if side != big.Exact {
		panic("a width that is no float")
	}
	i, _ := wantMul(p.f, iv(w, w))
	return i
}

// doubt is how wide the worth is.
func (p stretch) doubt() float32 {
	w := p.worth()
	return roundedUp(wide().Sub(exact(w.Hi), exact(w.Lo)))
}

// cutNext is the place of the stretch that P8 says is cut next.
func cutNext(line []stretch) int {
	open, widest := -1, -1
	for i, p := range line {
		if p.e != api.OK && (open < 0 || p.width().Cmp(line[open].width()) > 0) {
			open = i
		}
	}
	if open >= 0 {
		return open
	}
	for i, p := range line {
		if widest < 0 || p.doubt() > line[widest].doubt() {
			widest = i
		}
	}
	return widest
}

func uncut(text string, from, to int) []stretch {
	return []stretch{newStretch(text, big.NewRat(int64(from), api.Parts), big.NewRat(int64(to), api.Parts))}
}

func cutAt(text string, line []stretch, at int) []stretch {
	p := line[at]
	middle := new(big.Rat).Add(p.left, p.right)
	middle.Mul(middle, big.NewRat(1, 2))
	var next []stretch
	next = append(next, line[:at]...)
	next = append(next, newStretch(text, p.left, middle), newStretch(text, middle, p.right))
	return append(next, line[at+1:]...)
}

// wantIntegral is what P8 says of arguments that are no error.
func wantIntegral(text string, from, to, budget int) (api.Interval, api.Errno) {
	line := uncut(text, from, to)
	for range budget {
		line = cutAt(text, line, cutNext(line))
	}
	sum := iv(0, 0)
	for _, p := range line {
		if p.e != api.OK {
			return api.Interval{}, api.ErrOpen
		}
		sum, _ = wantAdd(sum, p.worth())
	}
	return sum, api.OK
}

func checkIntegral(t *testing.T, text string, from, to, budget int, want api.Interval, f api.Errno) {
	t.Helper()
	if i, e := hedge.Integral(text, from, to, budget); e != f || !same(i, want) {
		t.Errorf("P8: Integral(%q, %d, %d, %d) = %v, %d, want %v, %d", text, from, to, budget, i, e, want, f)
	}
}

// TestIntegralRows has the document's row of examples, and its edges, reckoned by hand.
func TestIntegralRows(t *testing.T) {
	third := api.Of(0x3eaaaaaa, 0x3eaaaaab)
	for _, c := range []struct {
		text             string
		from, to, budget int
		want             api.Interval
	}{
		{"x", 0, 256, 0, iv(0, 1)}, {"x", 0, 256, 1, iv(0.25, 0.75)}, {"x", 0, 256, 2, iv(0.3125, 0.6875)},
		{"3", -256, 256, 0, iv(6, 6)}, {"3", -256, 256, 1, iv(6, 6)}, {"3", -256, 256, api.MaxBudget, iv(6, 6)},
		{"x", -api.MaxEnd, api.MaxEnd, 0, iv(-512, 512)}, {"1", -api.MaxEnd, api.MaxEnd, api.MaxBudget, iv(32, 32)}, {"x", -api.MaxEnd, -api.MaxEnd, 0, iv(0, 0)}, {"x", api.MaxEnd, api.MaxEnd, api.MaxBudget, iv(0, 0)},
		{"x", -1, 1, 0, iv(-0x1p-15, 0x1p-15)}, {"x", 3, 5, 0, iv(6*0x1p-16, 10*0x1p-16)}, {"x", -5, -3, 0, iv(-10*0x1p-16, -6*0x1p-16)},
		{"1", 7, 7, 0, iv(0, 0)}, {"-1", 7, 7, 9, iv(0, 0)}, {huge, 7, 7, 3, iv(0, 0)}, {"-" + huge, 0, 0, 3, iv(0, 0)}, {"0 * -x", 0, 256, 3, iv(0, 0)},
		{"1 / 3", 0, 256, 0, third}, {"1 / 3", 0, 256, 1, third}, {"1 / 3", -256, 0, 2, third},
		// A third times three is not told exactly: each product is rounded.
		{"1 / 3", 0, 768, 0, api.Of(0x3f7fffff, 0x3f800001)},
		// The right half is cut, of which the worth is wider: 0 to 1/2, 1/2 to 3/4, 3/4 to 1.
		{"sq(x)", 0, 256, 1, iv(0.125, 0.625)}, {"sq(x)", 0, 256, 2, iv(0.0625+0.5625/4, 0.125+0.5625/4+0.25)},
		// Of which nothing can be said that is cut first, though it is not widest in worth.
		{"1 / (x - x + 0.5)", 0, 256, 3, api.Of(0x3faaaaaa, 0x40800000)},
		// Worths that are infinite are alike: 0 to 1/4, 1/4 to 1/2, 1/2 to 1.
		{"sq(x) + abs(x - x) * " + huge, 0, 256, 1, iv(0.125, inf)}, {"sq(x) + abs(x - x) * " + huge, 0, 256, 2, iv(0.0625/4+0.125, inf)},
		{huge, 0, 256, 0, iv(greatest, inf)}, {huge, 0, 512, 1, iv(greatest, inf)}, {"-" + huge, 0, 512, 1, iv(-inf, -greatest)}, {huge + " * x", -256, 256, 5, iv(-inf, inf)},
	} {
		checkIntegral(t, c.text, c.from, c.to, c.budget, c.want, api.OK)
	}
}

// TestIntegralOpen: cells of which nothing can be said go ahead of all others, and stay in
// the way while there is one.
func TestIntegralOpen(t *testing.T) {
	none := api.Interval{}
	for budget := 0; budget <= api.MaxBudget; budget++ {
		checkIntegral(t, "1 / x", 0, 256, budget, none, api.ErrOpen)
		checkIntegral(t, "1 / x", -256, 0, budget, none, api.ErrOpen)
		checkIntegral(t, "1 / x", 0, 0, budget, none, api.ErrOpen)
		checkIntegral(t, "sqrt(x)", -256, 4096, budget, none, api.ErrOpen)
		checkIntegral(t, "sqrt(x - 1)", 0, 256, budget, none, api.ErrOpen)
		checkIntegral(t, "0 * (1 / 0)", 0, 256, budget, none, api.ErrOpen)
	}
	for _, c := range []struct {
		text           string
		from, to, cuts int // so many and no fewer
	}{
		{"1 / (x - x + 0.5)", 0, 256, 3}, {"1 / (x - x + 0.5)", 0, 127, 0}, {"1 / (x - x + 0.5)", 0, 128, 1}, {"1 / (x - x + 0.125)", 0, 256, 15}, {"sqrt(x - x + 0.125)", 0, 256, 7},
		{"1 / (x * x + 1)", -256, 256, 1}, {"1 / (x * x + 1)", -255, 255, 0}, {"sqrt(x * x)", -256, 256, 1},
		// Cuts on the left only, until -1 to 1/16, though the worths on the right are far wider.
		{"1 / (x * x + 0.25) + 9999 * max(x, 0)", -256, 4096, 4},
	} {
		for budget := 0; budget < c.cuts; budget++ {
			checkIntegral(t, c.text, c.from, c.to, budget, none, api.ErrOpen)
		}
		if i, e := hedge.Integral(c.text, c.from, c.to, c.cuts); e != api.OK {
			t.Errorf("P8: Integral(%q, %d, %d, %d) = %v, %d", c.text, c.from, c.to, c.cuts, i, e)
		}
	}
}

// TestIntegralErrors: where several errors apply, the one that the document names first is
// told, with nothing beside it.
func TestIntegralErrors(t *testing.T) {
	lineErrors(func(text string, from, to, budget int, e api.Errno) {
		checkIntegral(t, text, from, to, budget, api.Interval{}, e)
	})
}

// lineErrors hands check arguments of Integral and Zeros that are errors, and which one.
func lineErrors(check func(text string, from, to, budget int, e api.Errno)) {
	const lowest, highest = math.MinInt, math.MaxInt
	noText := []struct {
		text string
		e    api.Errno
	}{
		{"", api.ErrSyntax}, {"x +", api.ErrSyntax}, {"x y", api.ErrSyntax}, {"sin(y)", api.ErrName}, {"1 / 0 +", api.ErrSyntax},
		{strings.Repeat("(", 9) + "x" + strings.Repeat(")", 9), api.ErrDeep}, {strings.Repeat(" ", api.MaxText) + "x", api.ErrLong}, {"X", api.ErrSyntax},
	}
	noEnds := [][2]int{
		{-api.MaxEnd - 1, 0}, {0, api.MaxEnd + 1}, {-api.MaxEnd - 1, api.MaxEnd + 1}, {1, 0}, {api.MaxEnd, -api.MaxEnd}, {api.MaxEnd, api.MaxEnd - 1},
		{-api.MaxEnd - 1, -api.MaxEnd - 1}, {api.MaxEnd + 1, api.MaxEnd + 1}, {api.MaxEnd + 1, 0}, {0, -api.MaxEnd - 1}, {api.MaxEnd + 1, api.MaxEnd},
		{lowest, highest}, {highest, lowest}, {lowest, lowest}, {highest, highest}, {lowest, 0}, {0, highest}, {0, lowest}, {highest, 0},
	}
	goodEnds := [][2]int{{0, 256}, {-api.MaxEnd, api.MaxEnd}, {-api.MaxEnd, -api.MaxEnd}, {api.MaxEnd, api.MaxEnd}, {0, 0}, {-256, 255}}
	noBudgets := []int{-1, api.MaxBudget + 1, lowest, highest}
	goodBudgets := []int{0, 1, api.MaxBudget}
	otherNames := strings.Split("y;xx;x + y;x + 0 * y;1 / 0 + y;1 / x - y;sqrt(-1) * y;min(1 / 0, max(x, y));sqrt;sq(sq);x * (1 / (x - x)) - abs;0 * (y - y)", ";")
	for _, ends := range append(append([][2]int{}, goodEnds...), noEnds...) {
		for _, budget := range append(append([]int{}, goodBudgets...), noBudgets...) {
			for _, c := range noText {
				check(c.text, ends[0], ends[1], budget, c.e)
			}
		}
	}
	for _, text := range append([]string{"x", "1 / 0", "1"}, otherNames...) {
		for _, ends := range noEnds {
			for _, budget := range append([]int{0, 40}, noBudgets...) {
				check(text, ends[0], ends[1], budget, api.ErrEnds)
			}
		}
		for _, ends := range goodEnds {
			for _, budget := range noBudgets {
				check(text, ends[0], ends[1], budget, api.ErrBudget)
			}
		}
	}
	for _, text := range otherNames {
		for _, ends := range goodEnds {
			for _, budget := range goodBudgets {
				check(text, ends[0], ends[1], budget, api.ErrName)
			}
		}
	}
}

// inX is an expression with x for all its variables.
func inX(e tree) tree {
	if len(e.args) == 0 && !isNumber(e.word) {
		return tree{word: "x"}
	}
	out := tree{word: e.word}
	for _, a := range e.args {
		out.args = append(out.args, inX(a))
	}
	return out
}

// drawInX is a text: one that is drawn, or one of which the cells are of many kinds.
func drawInX(r *rand.Rand) string {
	texts := []string{
		"x", "0.1", "x / 3", "sq(x)", "x * x * x - x", "sqrt(abs(x))", "abs(x - 0.3)", "max(x, 0.3) * min(x, 0.7)", "x - x", "1234567 * x * x * x", "0.1 * x + 0.000001 / (1 + sq(x))",
		"1 / (x * x + 1)", "sqrt(x * x - x + 1)", "1 / (x - x + 0.5)", "1 / (sq(x) + 0.1)", "1 / (x * x - x + 1) - x", "x / (x + 17)", "min(x, 0.5) + max(0, abs(x) - 1)", "1 / x", "sqrt(x)",
		"sq(x) + abs(x - x) * " + huge, huge + " * x", huge + " * max(x - 1, 0)", "sq(sq(sq(x * 9999))) * 9999999", "-sq(sq(sq(x * 9999))) * 9999999", "sq(sq(sq(sq(sq(sq(x))))))", "x / " + huge, "max(-1, min(1, x * 1234567))",
	}
	if r.Intn(2) == 0 {
		return texts[r.Intn(len(texts))]
	}
	return inX(drawTree(r, 4)).text(r, 0)
}

// drawLine is the ends of a line.
func drawLine(r *rand.Rand) (from, to int) {
	switch r.Intn(6) {
	case 0:
		return -api.MaxEnd, api.MaxEnd
	case 1:
		from = r.Intn(2*api.MaxEnd+1) - api.MaxEnd
		return from, from
	case 2:
		from = 128 * (r.Intn(9) - 4)
		return from, from + 64<<r.Intn(4)
	}
	from, to = r.Intn(2*api.MaxEnd+1)-api.MaxEnd, r.Intn(2*api.MaxEnd+1)-api.MaxEnd
	return min(from, to), max(from, to)
}

// TestIntegralDrawn holds Integral against the document at lines that are drawn.
func TestIntegralDrawn(t *testing.T) {
	r := rand.New(rand.NewSource(9))
	said, open, infinite := 0, 0, 0
	for range 4000 {
		text := drawInX(r)
		if len(text) > api.MaxText {
			continue
		}
		from, to := drawLine(r)
		budget := []int{0, 1, 2, 3, r.Intn(12), r.Intn(41), 40}[r.Intn(7)]
		want, e := wantIntegral(text, from, to, budget)
		checkIntegral(t, text, from, to, budget, want, e)
		switch {
		case e != api.OK:
			open++
		case want.Lo == -inf || want.Hi == inf:
			infinite++
		default:
			said++
		}
	}
	if said < 1000 || open < 400 || infinite < 200 {
		t.Errorf("only %d finite, %d open, %d infinite", said, open, infinite)
	}
}

// TestIntegralDeep: of functions that are 0 but around one place, cells are so narrow at last
// that their ends are no floats.
func TestIntegralDeep(t *testing.T) {
	for _, text := range []string{
		"max(0, 1 - abs(x - 15.3) * 999999)", "max(0, 1 - abs(x + 15.3) * 999999)", "max(0, 1 - abs(x - 3.3) * 9999999)", "-max(0, 1 - abs(x + 3.3) * 9999999)",
	} {
		for budget := 20; budget <= api.MaxBudget; budget++ {
			for _, line := range [][2]int{{-api.MaxEnd, api.MaxEnd}, {-4000, 4001}, {3891, 4095}, {-4095, -3891}, {800, 900}, {-900, -800}} {
				want, e := wantIntegral(text, line[0], line[1], budget)
				checkIntegral(t, text, line[0], line[1], budget, want, e)
			}
		}
	}
}

// TestIntegralTruth: the integrals of polynomials, which fractions tell exactly, lie within
// what is told (P10).
func TestIntegralTruth(t *testing.T) {
	r := rand.New(rand.NewSource(10))
	for range 1500 {
		var words []string
		var numbers []*big.Rat
		for range 4 {
			word := strconv.FormatFloat(float64(r.Intn(2001)-1000)/1000, 'f', 3, 64)
			n, _ := new(big.Rat).SetString(word)
			words, numbers = append(words, "("+word+")"), append(numbers, n)
		}
		from, to := drawLine(r)
		truth := new(big.Rat).Sub(sumUntil(numbers, to), sumUntil(numbers, from))
		for _, form := range []string{"a + b * x + c * x * x + d * x * x * x", "((d * x + c) * x + b) * x + a", "a + x * b + c * sq(x) + d * sq(x) * x"} {
			text := strings.NewReplacer("a", words[0], "b", words[1], "c", words[2], "d", words[3]).Replace(form)
			i, e := hedge.Integral(text, from, to, r.Intn(41))
			told := wide().SetRat(truth)
			if e != api.OK || exact(i.Lo).Cmp(told) > 0 || exact(i.Hi).Cmp(told) < 0 {
				t.Errorf("P10: Integral(%q, %d, %d) = %v, %d, but it is %v", text, from, to, i, e, told)
			}
		}
	}
}

// sumUntil is the integral of a polynomial from 0 to to / Parts.
func sumUntil(numbers []*big.Rat, to int) *big.Rat {
	x, power, sum := big.NewRat(int64(to), api.Parts), big.NewRat(1, 1), new(big.Rat)
	for i, n := range numbers {
		power.Mul(power, x)
		part := new(big.Rat).Mul(n, power)
		sum.Add(sum, part.Mul(part, big.NewRat(1, int64(i+1))))
	}
	return sum
}

// TestIntegralOthers: integrals that are no fractions lie within what is told (P10).
func TestIntegralOthers(t *testing.T) {
	for budget := range api.MaxBudget + 1 {
		for _, c := range []struct {
			text     string
			from, to int
			truth    float64
		}{
			{"1 / x", 256, 512, math.Ln2}, {"-1 / x", 1, api.MaxEnd, -math.Log(api.MaxEnd)}, {"1 / -x", -1024, -256, math.Log(4)},
			{"sqrt(x)", 0, 256, 2.0 / 3}, {"sqrt(x)", 0, api.MaxEnd, 128.0 / 3}, {"sqrt(abs(x))", -256, 1024, 2.0/3 + 16.0/3},
			{"abs(x)", -256, 512, 2.5}, {"1 / (1 + sq(x))", 0, 256, math.Pi / 4}, {"min(x, 1 - x)", 0, 256, 0.25}, {"max(x, -x / 2)", -512, 256, 1.5},
		} {
			i, e := hedge.Integral(c.text, c.from, c.to, budget)
			if e != api.OK || float64(i.Lo) > c.truth+1e-9 || float64(i.Hi) < c.truth-1e-9 {
				t.Errorf("P10: Integral(%q, %d, %d, %d) = %v, %d, but it is %v", c.text, c.from, c.to, budget, i, e, c.truth)
			}
		}
	}
}

// TestIntegralAgain: what is told hangs on the arguments alone (P2).
func TestIntegralAgain(t *testing.T) {
	r := rand.New(rand.NewSource(11))
	for range 300 {
		text, other := drawInX(r), drawInX(r)
		from, to := drawLine(r)
		first, e := hedge.Integral(text, from, to, 20)
		hedge.Integral(other, from, to, 30)
		hedge.Integral(other, to, from, -1)
		if again, f := hedge.Integral(text, from, to, 20); e != f || !same(first, again) {
			t.Errorf("P2: Integral(%q, %d, %d, 20) = %v, %d, then %v, %d", text, from, to, first, e, again, f)
		}
	}
}

// TestIntegralEnds: no text and no numbers make a call panic or go on for ever (P1).
func TestIntegralEnds(t *testing.T) {
	r := rand.New(rand.NewSource(12))
	for range 20000 {
		text := make([]byte, r.Intn(30))
		for i := range text {
			text[i] = "01.xxsq(),+-*/ \x80"[r.Intn(16)]
		}
		from, to := drawLine(r)
		if r.Intn(4) == 0 {
			from, to = int(r.Uint64()), int(r.Uint64())
		}
		e, _ := hedge.Check(string(text))
		if i, f := hedge.Integral(string(text), from, to, r.Intn(44)-2); e != api.OK && f != e || f != api.OK && !same(i, api.Interval{}) {
			t.Errorf("P8: Integral(%q, %d, %d) = %v, %d, but Check tells %d", text, from, to, i, f, e)
		}
	}
}

package hedge_test

import (
	"math/big"
	"math/rand"
	"slices"
	"strconv"
	"strings"
	"testing"

	"hedge/api"
	"hedge/hedge"
)

// clear tells whether there is surely no zero.
func (p stretch) clear() bool {
	return p.e == api.OK && (p.f.Lo > 0 || p.f.Hi < 0)
}

// cutNextUnclear is the place of the stretch that P9 says is cut next, or -1.
func cutNextUnclear(line []stretch) int {
	found := -1
	for i := len(line) - 1; i >= 0; i-- {
		if !line[i].clear() && (found < 0 || line[i].width().Cmp(line[found].width()) >= 0) {
			found = i
		}
	}
	return found
}

// wantZeros is what P9 says of arguments that are no error.
func wantZeros(text string, from, to, budget int) []api.Interval {
	line := uncut(text, from, to)
	for range budget {
		if at := cutNextUnclear(line); at >= 0 {
			line = cutAt(text, line, at)
		}
	}
	line = slices.DeleteFunc(line, stretch.clear)
	var told []api.Interval
	for len(line) > 0 {
		n := 1
		for n < len(line) && line[n-1].right.Cmp(line[n].left) == 0 {
			n++
		}
		told = append(told, iv(roundedDown(wide().SetRat(line[0].left)), roundedUp(wide().SetRat(line[n-1].right))))
		line = line[n:]
	}
	return told
}

func sameLists(a, b []api.Interval) bool { return slices.EqualFunc(a, b, same) }

func checkZeros(t *testing.T, text string, from, to, budget int, want []api.Interval) {
	t.Helper()
	if l, e := hedge.Zeros(text, from, to, budget); e != api.OK || !sameLists(l, want) {
		t.Errorf("P9: Zeros(%q, %d, %d, %d) = %v, %d, want %v", text, from, to, budget, l, e, want)
	}
}

// TestZerosRows has the document's row of examples, and its edges, reckoned by hand.
func TestZerosRows(t *testing.T) {
	const farEnd = api.MaxEnd / api.Parts
	for _, c := range []struct {
		text             string
		from, to, budget int
		want             []api.Interval
	}{
		{"x - 0.5", 0, 256, 2, []api.Interval{iv(0.25, 1)}}, {"x", 1, 256, 0, nil}, {"x", 1, 256, 7, nil}, {"x", 1, 256, api.MaxBudget, nil},
		// Of 0..0.5 and 0.5..1 the left one, then the one that is widest, then the left one again.
		{"x - 0.5", 0, 256, 0, []api.Interval{iv(0, 1)}}, {"x - 0.5", 0, 256, 1, []api.Interval{iv(0, 1)}}, {"x - 0.5", 0, 256, 3, []api.Interval{iv(0.25, 0.75)}}, {"x - 0.5", 0, 256, 4, []api.Interval{iv(0.375, 0.75)}},
		{"0.5 - x", 0, 256, 3, []api.Interval{iv(0.25, 0.75)}}, {"x + 0.5", -256, 0, 2, []api.Interval{iv(-0.75, 0)}},
		// The whole line is cut, and the halves on which f is 0; no clear one, though they are wider.
		{"x - 0.1", 0, 256, 1, []api.Interval{iv(0, 0.5)}}, {"x - 0.1", 0, 256, 2, []api.Interval{iv(0, 0.25)}}, {"x - 0.1", 0, 256, 3, []api.Interval{iv(0, 0.125)}}, {"x - 0.1", 0, 256, 4, []api.Interval{iv(0.0625, 0.125)}}, {"x - 0.9", 0, 256, 4, []api.Interval{iv(0.875, 0.9375)}},
		// Two zeros, apart.
		{"sq(x) - 1", -512, 512, 2, []api.Interval{iv(-2, 2)}}, {"sq(x) - 1", -512, 512, 4, []api.Interval{iv(-1.5, 2)}}, {"sq(x) - 1", -512, 512, 6, []api.Interval{iv(-1.5, -0.5), iv(0.5, 2)}}, {"sq(x) - 1", -512, 512, 7, []api.Interval{iv(-1.5, -0.5), iv(0.5, 1.5)}},
		{"x * (x - 1)", 0, 256, 2, []api.Interval{iv(0, 0.25), iv(0.5, 1)}}, {"x * (x - 1)", 0, 256, 3, []api.Interval{iv(0, 0.25), iv(0.75, 1)}}, {"abs(x) - 0.9", -256, 256, 4, []api.Interval{iv(-1, -0.75), iv(0.5, 1)}},
		// Nothing said: not clear, not cut ahead of a wider one, and no error.
		{"1 / x", 0, 256, 0, []api.Interval{iv(0, 1)}}, {"1 / x", 0, 256, 3, []api.Interval{iv(0, 0.125)}}, {"1 / 0", -256, 512, api.MaxBudget, []api.Interval{iv(-1, 2)}}, {"sqrt(x - 99)", 0, 256, 5, []api.Interval{iv(0, 1)}}, {"1 / x", 0, 0, 3, []api.Interval{iv(0, 0)}},
		{"x - 0.75 + 0 / (x - 0.1)", 0, 256, 2, []api.Interval{iv(0, 0.25), iv(0.5, 1)}}, {"x - 0.75 + 0 / (x - 0.1)", 0, 256, 3, []api.Interval{iv(0, 0.25), iv(0.5, 1)}}, {"x - 0.75 + 0 / (x - 0.1)", 0, 256, 4, []api.Interval{iv(0, 0.125), iv(0.5, 1)}},
		{"x - 0.25 + 0 / (x - 0.8)", 0, 256, 3, []api.Interval{iv(0, 0.5), iv(0.75, 1)}}, {"x - 0.25 + 0 / (x - 0.8)", 0, 256, 4, []api.Interval{iv(0.125, 0.5), iv(0.75, 1)}}, {"sqrt(x)", -256, 256, 3, []api.Interval{iv(-1, 0.5)}}, {"1 / (x - x + 0.5)", 0, 256, 2, []api.Interval{iv(0.5, 1)}}, {"1 / (x - x + 0.5)", 0, 256, 3, nil},
		// 0 at an end of what f is, and just beyond it.
		{"x", 0, 256, 0, []api.Interval{iv(0, 1)}}, {"x", -256, 0, 0, []api.Interval{iv(-1, 0)}}, {"x", -256, -1, 0, nil}, {"x - 1", 0, 256, 3, []api.Interval{iv(0.875, 1)}}, {"x - 1", 0, 255, 0, nil}, {"x + 1", -255, 0, 0, nil}, {"x - x", 3, 4, 0, []api.Interval{iv(3.0/256, 4.0/256)}}, {"x + 0.000001", 0, 256, 0, nil}, {"-0.000001 - x", 0, 256, 0, nil},
		// One place.
		{"x", 0, 0, 0, []api.Interval{iv(0, 0)}}, {"x", 0, 0, api.MaxBudget, []api.Interval{iv(0, 0)}}, {"-x", 0, 0, 1, []api.Interval{iv(0, 0)}}, {"x - 1", 256, 256, 3, []api.Interval{iv(1, 1)}}, {"x - 1", 255, 255, 3, nil}, {"x + 1", -256, -256, 3, []api.Interval{iv(-1, -1)}},
		// The far ends.
		{"x - 16", -api.MaxEnd, api.MaxEnd, 5, []api.Interval{iv(15, farEnd)}}, {"x + 16", -api.MaxEnd, api.MaxEnd, 5, []api.Interval{iv(-farEnd, -15)}}, {"x - 16", api.MaxEnd, api.MaxEnd, 1, []api.Interval{iv(farEnd, farEnd)}}, {"x + 16", -api.MaxEnd, -api.MaxEnd, 1, []api.Interval{iv(-farEnd, -farEnd)}}, {"0", -api.MaxEnd, api.MaxEnd, api.MaxBudget, []api.Interval{iv(-farEnd, farEnd)}}, {"3", -api.MaxEnd, api.MaxEnd, api.MaxBudget, nil}, {"x", -api.MaxEnd, api.MaxEnd, 1, []api.Interval{iv(-farEnd, farEnd)}}, {"x", -api.MaxEnd, api.MaxEnd, 3, []api.Interval{iv(-8, 8)}},
		// Infinite ends.
		{huge, 0, 256, 3, nil}, {"-" + huge, 0, 256, 3, nil}, {huge + " * x", -256, 256, 3, []api.Interval{iv(-0.5, 0.5)}}, {huge + " - " + huge, 0, 256, 3, []api.Interval{iv(0, 1)}}, {"1 / " + huge, 0, 256, 3, []api.Interval{iv(0, 1)}},
		// A zero between two floats; the cells beside them share one with it.
		{"x - 1 / 3", 85, 86, 40, []api.Interval{api.Of(0x3eaaaaa9, 0x3eaaaaac)}},
	} {
		checkZeros(t, c.text, c.from, c.to, c.budget, c.want)
	}
}

// TestZerosErrors: where several errors apply, the one that the document names first is told,
// with no list.
func TestZerosErrors(t *testing.T) {
	lineErrors(func(text string, from, to, budget int, want api.Errno) {
		if l, e := hedge.Zeros(text, from, to, budget); l != nil || e != want {
			t.Errorf("P9: Zeros(%q, %d, %d, %d) = %v, %d, want %d", text, from, to, budget, l, e, want)
		}
	})
}

// drawCrossing is a text: one that is drawn, or one that is 0 or can't be reckoned here and there.
func drawCrossing(r *rand.Rand) string {
	at := func() string {
		return "(" + strconv.FormatFloat(float64(r.Intn(16384)-8192)/512, 'f', r.Intn(4), 64) + ")"
	}
	forms := []string{
		"x - A", "(x - A) * (x - B)", "(x - A) * (x - B) * (x - C)", "sq(x) - abs(A)", "abs(x - A) - 0.1", "abs(abs(x - A) - 1) - 0.5", "x * x - A * x + B", "min(x - A, B - x)", "max(x - A, B - x)",
		"1 / (x - A)", "(x - A) / (x - B)", "sqrt(x - A)", "sqrt(abs(x - A)) - 1", "x - A + 0 / (x - B)", "1 / (x - A) + 1 / (x - B)", "max(0, x - A) * min(0, x - B)", "sq(x - A) * sq(x - B) - 0.001", "1 / max(0.1, x - A) - 0.3",
	}
	if r.Intn(3) == 0 {
		return drawInX(r)
	}
	return strings.NewReplacer("A", at(), "B", at(), "C", at()).Replace(forms[r.Intn(len(forms))])
}

// TestZerosDrawn holds Zeros against the document at lines that are drawn.
func TestZerosDrawn(t *testing.T) {
	r := rand.New(rand.NewSource(13))
	var lists [4]int
	for range 5000 {
		text := drawCrossing(r)
		if len(text) > api.MaxText {
			continue
		}
		from, to := drawLine(r)
		budget := []int{0, 1, 2, 3, r.Intn(12), r.Intn(41), 40}[r.Intn(7)]
		want := wantZeros(text, from, to, budget)
		checkZeros(t, text, from, to, budget, want)
		lists[min(len(want), 3)]++
	}
	if lists[0] < 500 || lists[1] < 1000 || lists[2] < 150 || lists[3] < 30 {
		t.Errorf("only so many lists of 0, 1, 2 and more: %v", lists)
	}
}

// TestZerosDeep: around one place cells are so narrow at last that their ends are no floats.
func TestZerosDeep(t *testing.T) {
	odd := 0
	for _, text := range []string{
		"x - 15.3", "x + 15.3", "x - 3.3", "-3.3 - x", "abs(x) - 15.7", "1 / (x - 15.3)", "sq(x - 15.3) - 0.000001", "x * 3 - 46", "(x - 15.3) * (x - 15.30001)", "sqrt(x + 3.3)",
	} {
		for budget := 18; budget <= api.MaxBudget; budget++ {
			for _, line := range [][2]int{{-api.MaxEnd, api.MaxEnd}, {-4000, 4001}, {3891, 4095}, {-4095, -3891}, {800, 900}, {-900, -800}, {3916, 3917}, {-845, -844}} {
				want := wantZeros(text, line[0], line[1], budget)
				checkZeros(t, text, line[0], line[1], budget, want)
				for _, i := range want {
					if i.Hi-i.Lo <= 0x1p-19 {
						odd++
					}
				}
			}
		}
	}
	if odd < 100 {
		t.Errorf("only %d intervals as narrow as floats are", odd)
	}
}

// TestZerosOverlap: cells that do not touch are not joined, not even if they overlap once they
// are rounded. Cells are 3/8 of the way from float to float here: those across the first and
// the second float above 15 are not clear, and what is between them is.
func TestZerosOverlap(t *testing.T) {
	const step = 0x1p-20
	text := "(x - 15) * (x - 15 - 3 / 1048576)"
	found := false
	for budget := range api.MaxBudget + 1 {
		want := wantZeros(text, 3840, 3843, budget)
		checkZeros(t, text, 3840, 3843, budget, want)
		found = found || len(want) == 2 && want[0] == iv(15, 15+2*step) && want[1].Lo == 15+step
	}
	if !found {
		t.Error("nothing overlaps")
	}
}

// TestZerosTruth: wherever f is 0, an interval tells it (P10).
func TestZerosTruth(t *testing.T) {
	r := rand.New(rand.NewSource(14))
	met := 0
	for range 3000 {
		from, to := drawLine(r)
		var words []string
		var zeros []*big.Rat
		for range 3 {
			// A place on the line, or near it.
			word := strconv.FormatFloat(float64(from)/api.Parts+(r.Float64()*1.2-0.1)*float64(to-from)/api.Parts, 'f', r.Intn(6), 64)
			n, _ := new(big.Rat).SetString(word)
			words, zeros = append(words, "("+word+")"), append(zeros, n)
		}
		for _, form := range []string{
			"(x - A) * (x - B) * (x - C)", "min(abs(x - A), min(sq(B - x), abs(C - x)))", "(x - A) * sqrt(abs((x - B) * (x - C)))", "max(-abs(x - A), -abs(x - B)) * (C - x)",
			"((x - A - B - C) * x + (A * B + A * C + B * C)) * x - A * B * C", "(x - A) * (x - B) * (x - C) / (x - 0.123)",
		} {
			text := strings.NewReplacer("A", words[0], "B", words[1], "C", words[2]).Replace(form)
			l, e := hedge.Zeros(text, from, to, r.Intn(41))
			if e != api.OK {
				t.Fatalf("P9: Zeros(%q, %d, %d): %d", text, from, to, e)
			}
			for _, z := range zeros {
				if z.Cmp(big.NewRat(int64(from), api.Parts)) < 0 || z.Cmp(big.NewRat(int64(to), api.Parts)) > 0 {
					continue
				}
				met++
				if !slices.ContainsFunc(l, func(i api.Interval) bool {
					return exact(i.Lo).Cmp(wide().SetRat(z)) <= 0 && exact(i.Hi).Cmp(wide().SetRat(z)) >= 0
				}) {
					t.Errorf("P10: Zeros(%q, %d, %d) = %v, but it is 0 at %v", text, from, to, l, z)
				}
			}
		}
	}
	if met < 10000 {
		t.Errorf("only %d zeros", met)
	}
}

// spoil writes into a list and into its spare room.
func spoil(l []api.Interval) {
	l = l[:cap(l)]
	for i := range l {
		l[i] = iv(7, -7)
	}
}

// TestZerosFresh: what is told hangs on the arguments alone, whatever is done with lists that
// came out ahead (P2).
func TestZerosFresh(t *testing.T) {
	r := rand.New(rand.NewSource(15))
	for range 500 {
		text, other := drawCrossing(r), drawCrossing(r)
		from, to := drawLine(r)
		first, e := hedge.Zeros(text, from, to, 20)
		kept := slices.Clone(first)
		l, _ := hedge.Zeros(other, from, to, 30)
		spoil(l)
		l, _ = hedge.Zeros(other, to, from, -1)
		spoil(l)
		second, f := hedge.Zeros(text, from, to, 20)
		spoil(second)
		third, g := hedge.Zeros(text, from, to, 20)
		if e != f || e != g || !sameLists(first, kept) || !sameLists(third, kept) {
			t.Errorf("P2: Zeros(%q, %d, %d, 20) = %v, %d, then %v, %d (the first list is now %v)", text, from, to, kept, e, third, g, first)
		}
	}
}

// TestZerosEnds: no text and no numbers make a call panic or go on for ever (P1).
func TestZerosEnds(t *testing.T) {
	r := rand.New(rand.NewSource(16))
	for range 20000 {
		text := make([]byte, r.Intn(30))
		for i := range text {
			text[i] = "01.xxsq(),+-*/ \x80"[r.Intn(16)]
		}
		from, to := drawLine(r)
		if r.Intn(4) == 0 {
			from, to = int(r.Uint64()), int(r.Uint64())
		}
		e, _ := hedge.Check(string(text))
		if l, f := hedge.Zeros(string(text), from, to, r.Intn(44)-2); e != api.OK && f != e || f != api.OK && l != nil {
			t.Errorf("P9: Zeros(%q, %d, %d) = %v, %d, but Check tells %d", text, from, to, l, f, e)
		}
	}
}

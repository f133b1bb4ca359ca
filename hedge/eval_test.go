package hedge_test

import (
	"maps"
	"math"
	"math/big"
	"math/rand"
	"strings"
	"testing"

	"hedge/api"
	"hedge/hedge"
)

// TestEvalRows has the document's row of examples, and its edges.
func TestEvalRows(t *testing.T) {
	z := minusZero()
	of := map[string]api.Interval{
		"x": iv(-1, 2), "y": iv(3, 3), "p": iv(1, 2), "all": iv(-inf, inf), "up": iv(2, inf), "down": iv(-inf, -2),
		"z": iv(z, z), "zp": iv(z, 1), "mz": iv(-1, z), "m": iv(greatest, greatest), "e": iv(least, least),
		"sqrt": iv(5, 5), "abcdef": iv(7, 8),
	}
	tenth := iv(13421772*0x1p-27, 13421773*0x1p-27)
	for _, c := range []struct {
		text string
		want api.Interval
	}{
		{"x * x", iv(-2, 4)}, {"sq(x)", iv(0, 4)}, {"0.1", tenth}, {"-p - -1", iv(-1, 0)},
		{"1 + 2 * 3 - 4 / 2", iv(5, 5)}, {"2 - 3 - 4", iv(-5, -5)}, {"2 - (3 - 4)", iv(3, 3)}, {"16 / 4 / 2", iv(2, 2)}, {"16 / (4 / 2)", iv(8, 8)},
		{"-2 * -3", iv(6, 6)}, {"---y", iv(-3, -3)}, {"-x", iv(-2, 1)}, {"-sq(y)", iv(-9, -9)}, {"(x)", iv(-1, 2)}, {"sqrt(sqrt + 4) - sqrt", iv(-2, -2)},
		{"x + p", iv(0, 4)}, {"x - p", iv(-3, 1)}, {"x * p", iv(-2, 4)}, {"x / p", iv(-1, 2)}, {"p / y", api.Of(0x3eaaaaaa, 0x3f2aaaab)},
		{"abs(x)", iv(0, 2)}, {"abs(-y)", iv(3, 3)}, {"abs(x - 9)", iv(7, 10)}, {"sq(-p)", iv(1, 4)}, {"min(x, p)", iv(-1, 2)}, {"min(x + 2, p)", iv(1, 2)}, {"max(x, p)", iv(1, 2)}, {"max(x, 1) - min(3, x)", iv(-1, 3)}, {"abcdef", iv(7, 8)},
		{"0", iv(0, 0)}, {"0.0", iv(0, 0)}, {"-0", iv(0, 0)}, {"007", iv(7, 7)}, {"1.250", iv(1.25, 1.25)}, {"9999999", iv(9999999, 9999999)}, {"0.000001", api.Of(0x358637bd, 0x358637be)}, {"-0.1", iv(-tenth.Hi, -tenth.Lo)}, {"999999.9", api.Of(0x497423fe, 0x497423ff)},
		{"all", iv(-inf, inf)}, {"-all", iv(-inf, inf)}, {"-up", iv(-inf, -2)}, {"abs(all)", iv(0, inf)}, {"abs(down)", iv(2, inf)}, {"sq(down)", iv(4, inf)}, {"sq(all)", iv(0, inf)}, {"all * 0", iv(0, 0)}, {"1 / up", iv(0, 0.5)}, {"up / down", iv(-inf, 0)}, {"sqrt(up + 2)", iv(2, inf)}, {"min(up, down)", iv(-inf, -2)}, {"max(all, 3)", iv(3, inf)}, {"min(all, 3)", iv(-inf, 3)}, {"up - up", iv(-inf, inf)},
		{"z", iv(0, 0)}, {"(z)", iv(0, 0)}, {"-z", iv(0, 0)}, {"zp", iv(0, 1)}, {"-zp", iv(-1, 0)}, {"mz", iv(-1, 0)}, {"abs(mz)", iv(0, 1)}, {"abs(zp)", iv(0, 1)}, {"abs(z)", iv(0, 0)}, {"sq(z)", iv(0, 0)}, {"sqrt(z)", iv(0, 0)}, {"sqrt(zp)", iv(0, 1)}, {"min(z, 0)", iv(0, 0)}, {"min(0, z)", iv(0, 0)}, {"max(z, mz)", iv(0, 0)}, {"z + z", iv(0, 0)}, {"z * -1", iv(0, 0)}, {"-0 / y", iv(0, 0)},
		{"m + m", iv(greatest, inf)}, {"sq(m)", iv(greatest, inf)}, {"-m - m", iv(-inf, -greatest)}, {"sq(-e)", iv(0, least)}, {"1 + e", iv(1, math.Nextafter32(1, 2))}, {"e / 2", iv(0, least)}, {"m / e", iv(greatest, inf)}, {"m + m - m", iv(0, inf)},
	} {
		if i, e := hedge.Eval(c.text, of); e != api.OK || !same(i, c.want) {
			t.Errorf("P7: Eval(%q) = %v, %d, want %v", c.text, i, e, c.want)
		}
	}
}

// TestEvalErrors: the first error that is met is told, with nothing beside it.
func TestEvalErrors(t *testing.T) {
	of := map[string]api.Interval{"x": iv(-1, 2), "y": iv(3, 3), "z": iv(minusZero(), minusZero()), "b": iv(-least, 1), "sq": iv(1, 2)}
	for _, c := range []struct {
		text string
		e    api.Errno
	}{
		{"1 / (y - y)", api.ErrZero}, {"no", api.ErrName}, {"sqrt", api.ErrName}, {"sq + max", api.ErrName},
		{"1 / 0", api.ErrZero}, {"0 / 0", api.ErrZero}, {"1 / z", api.ErrZero}, {"1 / x", api.ErrZero}, {"1 / b", api.ErrZero}, {"1 / sq(x)", api.ErrZero}, {"0 * (1 / x)", api.ErrZero},
		{"sqrt(x)", api.ErrBelow}, {"sqrt(b)", api.ErrBelow}, {"sqrt(-y)", api.ErrBelow}, {"sqrt(0 - 1)", api.ErrBelow},
		{"1 / x + no", api.ErrZero}, {"no + 1 / x", api.ErrName}, {"1 / 0 + sqrt(x)", api.ErrZero}, {"sqrt(x) + 1 / 0", api.ErrBelow},
		{"sqrt(x) / x", api.ErrBelow}, {"sqrt(x) / no", api.ErrBelow}, {"no / sqrt(x)", api.ErrName}, {"x / sqrt(x)", api.ErrBelow}, {"1 / x / sqrt(x)", api.ErrZero}, {"1 / (x / no)", api.ErrName},
		{"1 / x * no", api.ErrZero}, {"1 - 1 * (2 / x) - no", api.ErrZero}, {"sqrt(no) + 1 / 0", api.ErrName}, {"sqrt(1 / x - 9)", api.ErrZero}, {"sqrt(x - sqrt(y - 4))", api.ErrBelow},
		{"min(1 / 0, no)", api.ErrZero}, {"max(no, 1 / 0)", api.ErrName}, {"max(1, sqrt(x)) + no", api.ErrBelow}, {"abs(-sqrt(x))", api.ErrBelow}, {"x + y * no / 0", api.ErrName},
	} {
		if i, e := hedge.Eval(c.text, of); e != c.e || !same(i, api.Interval{}) {
			t.Errorf("P7: Eval(%q) = %v, %d, want %d", c.text, i, e, c.e)
		}
	}
}

// TestEvalMaps: maps that are nil or empty, and such as hold something that is no interval.
func TestEvalMaps(t *testing.T) {
	for _, of := range []map[string]api.Interval{nil, {}} {
		if i, e := hedge.Eval("1 + 2", of); e != api.OK || !same(i, iv(3, 3)) {
			t.Errorf("P7: Eval of 1 + 2 with %v = %v, %d", of, i, e)
		}
		if i, e := hedge.Eval("1 + x", of); e != api.ErrName || !same(i, api.Interval{}) {
			t.Errorf("P7: Eval of 1 + x with %v = %v, %d", of, i, e)
		}
	}
	_, bad := pairs()
	for n, b := range bad {
		for _, name := range []string{"x", "other", "", "No name", "muchtoolong"} {
			of := map[string]api.Interval{"a": iv(1, 2), "b": iv(3, 4), "c": iv(-inf, inf), name: b}
			for _, text := range []string{"x", "a", "1", "no + 1 / 0", "1 / 0", "sqrt(-1)"} {
				if i, e := hedge.Eval(text, of); e != api.ErrInterval || !same(i, api.Interval{}) {
					t.Errorf("P7: Eval(%q) beside %q: %v = %v, %d", text, name, b, i, e)
				}
			}
			if i, e := hedge.Eval("1 +", of); e != api.ErrSyntax || !same(i, api.Interval{}) {
				t.Errorf("P7: Eval of 1 + beside the %dth that is none = %v, %d", n, i, e)
			}
		}
	}
	of := map[string]api.Interval{"": iv(1, 2), "No name": iv(3, 4), "muchtoolong": iv(5, 6), "x": iv(7, 8)}
	if i, e := hedge.Eval("x", of); e != api.OK || !same(i, iv(7, 8)) {
		t.Errorf("P7: Eval of x beside names that no text has = %v, %d", i, e)
	}
}

// drawOf is a map of variables: floats of all kinds, and small ones; w is often lacking.
func drawOf(r *rand.Rand) map[string]api.Interval {
	of := map[string]api.Interval{}
	good, _ := pairs()
	for _, name := range strings.Fields("x y z w sqrt min") {
		switch r.Intn(6) {
		case 0:
			of[name] = draw(r)
		case 1:
			of[name] = good[r.Intn(len(good))]
		default:
			lo := float32(r.Intn(33)-8) / 4
			of[name] = iv(lo, lo+float32(r.Intn(5))/8)
		}
	}
	if r.Intn(4) > 0 {
		delete(of, "w")
	}
	return of
}

// TestEvalDrawn holds Eval against the document at expressions that are drawn, and sees
// to it that it answers the same again, and leaves the map as it was (P2).
func TestEvalDrawn(t *testing.T) {
	r := rand.New(rand.NewSource(7))
	said := 0
	for range 20000 {
		e := drawTree(r, 4)
		text, of := e.text(r, 0), drawOf(r)
		if len(text) > api.MaxText {
			continue
		}
		kept := maps.Clone(of)
		got, errno := hedge.Eval(text, of)
		want, f := e.want(of)
		if errno != f || !same(got, want) {
			t.Errorf("P7: Eval(%q) with %v = %v, %d, want %v, %d", text, of, got, errno, want, f)
		}
		if again, f := hedge.Eval(text, of); errno != f || !same(got, again) {
			t.Errorf("P2: Eval(%q) with %v = %v, %d, then %v, %d", text, of, got, errno, again, f)
		}
		if !maps.EqualFunc(of, kept, same) {
			t.Errorf("P2: Eval(%q) made %v of %v", text, of, kept)
		}
		if errno == api.OK {
			said++
			checkTruth(t, r, e, text, of, got)
		}
	}
	if said < 5000 {
		t.Errorf("only %d expressions could be said", said)
	}
}

// checkTruth: what the expression is of numbers in the intervals is in what is told (P10).
func checkTruth(t *testing.T, r *rand.Rand, e tree, text string, of map[string]api.Interval, told api.Interval) {
	t.Helper()
	numbers := map[string]*big.Float{}
	for name, i := range of {
		numbers[name] = within(r, i)
	}
	truth := e.truth(numbers)
	slack := broad().SetMantExp(big.NewFloat(1), -3000)
	above := broad().Add(truth, slack).Cmp(exact(told.Lo)) >= 0
	below := broad().Sub(truth, slack).Cmp(exact(told.Hi)) <= 0
	if !above || !below {
		t.Errorf("P10: Eval(%q) with %v = %v, but at %v it is %.20g", text, of, told, numbers, truth)
	}
}

// within is a number in an interval: an end that is one, or one between.
func within(r *rand.Rand, i api.Interval) *big.Float {
	lo, hi := max(i.Lo, -greatest), min(i.Hi, greatest)
	part := []float64{0, 1, 0.5, r.Float64()}[r.Intn(4)]
	width := broad().Sub(exact(hi), exact(lo))
	return broad().Add(exact(lo), broad().Mul(width, big.NewFloat(part)))
}

// TestEvalEnds: no text makes a call panic or go on for ever (P1).
func TestEvalEnds(t *testing.T) {
	r := rand.New(rand.NewSource(8))
	for range 20000 {
		text := make([]byte, r.Intn(api.MaxText+20))
		for i := range text {
			text[i] = byte(r.Intn(256))
			if r.Intn(4) > 0 {
				text[i] = "0123.xysq(),+-*/ "[r.Intn(17)]
			}
		}
		e, _ := hedge.Check(string(text))
		if i, f := hedge.Eval(string(text), nil); e != api.OK && (f != e || !same(i, api.Interval{})) {
			t.Errorf("P7: Eval(%q) = %v, %d, but Check tells %d", text, i, f, e)
		}
	}
	for _, text := range []string{strings.Repeat("(", 1<<20), strings.Repeat("-", 1<<20) + "1", strings.Repeat("-", api.MaxText), strings.Repeat("sq(", 66)} {
		if i, e := hedge.Eval(text, nil); e == api.OK || !same(i, api.Interval{}) {
			t.Errorf("P1: Eval(%.10q..) = %v, %d", text, i, e)
		}
	}
}

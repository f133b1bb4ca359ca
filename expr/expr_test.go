package expr

import (
	"fmt"
	"math/big"
	"strconv"
	"strings"
	"testing"

	"hedge/api"
)

// TestOrder: arguments stand from the left to the right, ahead of what is done with them.
func TestOrder(t *testing.T) {
	for _, c := range []struct{ text, want string }{
		{"x", "x"},
		{"a - b - c", "a b sub c sub"},
		{"a / b * c", "a b div c mul"},
		{"a + b * c", "a b c mul add"},
		{"a * b + c", "a b mul c add"},
		{"(a + b) * c", "a b add c mul"},
		{"-a * b", "a neg b mul"},
		{"a - - -b", "a b neg neg sub"},
		{"-(a / b)", "a b div neg"},
		{"max(a, min(b + c, sq(d)))", "a b c add d sq min max"},
		{"sqrt(abs(sqrt)) - ((a))", "sqrt abs sqrt a sub"},
	} {
		e, errno, _ := Read(c.text)
		if got := told(e); errno != api.OK || got != c.want {
			t.Errorf("Read(%q) = %q, %d, want %q", c.text, got, errno, c.want)
		}
	}
}

// told is the steps of an expression in words.
func told(e Expression) string {
	words := []string{}
	for _, s := range e.steps {
		word := s.name
		if s.op != variable {
			word = strings.Fields("none number variable neg add sub mul div sqrt sq abs min max")[s.op]
		}
		words = append(words, word)
	}
	return strings.Join(words, " ")
}

func TestHasOnly(t *testing.T) {
	for _, c := range []struct {
		text string
		want bool
	}{
		{"x", true}, {"3", true}, {"x * sq(x) - max(x, 1)", true}, {"sqrt(x)", true},
		{"y", false}, {"xx", false}, {"x + y", false}, {"y + x", false}, {"0 * y", false}, {"1 / 0 - y", false},
		{"min(x, max(1, -(sq(y))))", false}, {"sqrt", false}, {"sq(sq)", false},
	} {
		e, errno, _ := Read(c.text)
		if got := e.HasOnly("x"); errno != api.OK || got != c.want {
			t.Errorf("%q has only x: %v, %d", c.text, got, errno)
		}
	}
}

func TestReadNothing(t *testing.T) {
	for _, text := range []string{"", "1 +", "sin(1)", "sq(1, 2)", strings.Repeat(" ", api.MaxText) + "1"} {
		if e, errno, _ := Read(text); errno == api.OK || e.steps != nil {
			t.Errorf("Read(%q) = %v, %d", text, e, errno)
		}
	}
}

// TestDecimal holds what numbers are against exact fractions, wherever the point stands.
func TestDecimal(t *testing.T) {
	for n := 0; n < 10000000; n += 977 {
		for point := range api.MaxDigits {
			digits := fmt.Sprintf("%07d", n)
			text := digits
			if point > 0 {
				text = digits[:point] + "." + digits[point:]
			}
			checkDecimal(t, text)
		}
		checkDecimal(t, strconv.Itoa(n))
	}
	for _, text := range []string{"0", "0.0", "0.000001", "9999999", "999999.9", "0.999999", "1.000000"} {
		checkDecimal(t, text)
	}
}

func checkDecimal(t *testing.T, text string) {
	t.Helper()
	truth, _ := new(big.Rat).SetString(text)
	near, exact := truth.Float32()
	got := decimal(text)
	lo, hi := new(big.Rat).SetFloat64(float64(got.Lo)), new(big.Rat).SetFloat64(float64(got.Hi))
	if exact {
		if got.Lo != near || got.Hi != near {
			t.Errorf("decimal(%q) = %v, want %v", text, got, near)
		}
		return
	}
	loBits, hiBits := got.Bits()
	if lo.Cmp(truth) >= 0 || hi.Cmp(truth) <= 0 || hiBits != loBits+1 {
		t.Errorf("decimal(%q) = %v", text, got)
	}
}

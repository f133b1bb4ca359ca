package signs

import (
	"strings"
	"testing"
)

func TestNext(t *testing.T) {
	for _, c := range []struct {
		text string
		at   int
		want Sign
	}{
		{"", 0, Sign{End, 0, 0}},
		{"   ", 0, Sign{End, 3, 3}},
		{"1  ", 1, Sign{End, 3, 3}},
		{"+", 0, Sign{Plus, 0, 1}},
		{"x - y", 1, Sign{Minus, 2, 3}},
		{"*", 0, Sign{Times, 0, 1}},
		{"/", 0, Sign{Over, 0, 1}},
		{"((", 0, Sign{Open, 0, 1}},
		{"))", 1, Sign{Close, 1, 2}},
		{" ,", 0, Sign{Comma, 1, 2}},
		{"7", 0, Sign{Number, 0, 1}},
		{"12 3", 0, Sign{Number, 0, 2}},
		{"12 3", 2, Sign{Number, 3, 4}},
		{"0.25*", 0, Sign{Number, 0, 4}},
		{"1.2.3", 0, Sign{Number, 0, 3}},
		{"1.2.3", 3, Sign{None, 3, 4}},
		{"1234567", 0, Sign{Number, 0, 7}},
		{"123456.7x", 0, Sign{Number, 0, 8}},
		{"12345678", 0, Sign{None, 0, 8}},
		{"1234567.8", 0, Sign{None, 0, 9}},
		{"1.", 0, Sign{None, 0, 2}},
		{" 1. 5", 0, Sign{None, 1, 3}},
		{".5", 0, Sign{None, 0, 1}},
		{"x", 0, Sign{Name, 0, 1}},
		{"xy2", 0, Sign{Name, 0, 2}},
		{"sq", 0, Sign{Name, 0, 2}},
		{"az za", 0, Sign{Name, 0, 2}},
		{"abcdef", 0, Sign{Name, 0, 6}},
		{"abcdefg", 0, Sign{None, 0, 7}},
		{"abcdefg(", 0, Sign{None, 0, 7}},
		{"sq(", 0, Sign{Function, 0, 2}},
		{" no   (", 0, Sign{Function, 1, 3}},
		{"sq )(", 0, Sign{Name, 0, 2}},
	} {
		if got := Next(c.text, c.at); got != c.want {
			t.Errorf("Next(%q, %d) = %v, want %v", c.text, c.at, got, c.want)
		}
	}
}

// TestBytes: which bytes begin something, of all that there are.
func TestBytes(t *testing.T) {
	for b := range 256 {
		c := string([]byte{byte(b)})
		begins := strings.Contains(" +-*/(),0123456789abcdefghijklmnopqrstuvwxyz", c)
		if got := Next(c, 0); (got.Kind != None) != begins {
			t.Errorf("Next(%q, 0) = %v", c, got)
		}
	}
}

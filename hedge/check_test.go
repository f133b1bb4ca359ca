package hedge_test

import (
	"math/rand"
	"regexp"
	"strings"
	"testing"

	"hedge/api"
	"hedge/hedge"
)

var (
	piece  = regexp.MustCompile(`^(?:[0-9]+(?:\.[0-9]*)?|[a-z]+|[-+*/(),])`)
	number = regexp.MustCompile(`^[0-9]+(\.[0-9]+)?$`)
	letter = regexp.MustCompile(`^[a-z]`)
	digit  = regexp.MustCompile(`^[0-9]`)
)

// begins tells whether a piece of a text is a sign, number or name.
func begins(p string) bool {
	switch {
	case digit.MatchString(p):
		return number.MatchString(p) && len(strings.Replace(p, ".", "", 1)) <= api.MaxDigits
	case letter.MatchString(p):
		return len(p) <= api.MaxName
	}
	return p != ""
}

// wantCheck says P6 once more by other means: pieces by patterns, brackets by a list of
// how many commas each of those that are open lacks.
func wantCheck(text string) (api.Errno, int) {
	if len(text) > api.MaxText {
		return api.ErrLong, 0
	}
	var open []int
	item := true // is to come next
	for at := 0; at < len(text); at++ {
		if text[at] == ' ' {
			continue
		}
		p := piece.FindString(text[at:])
		if !begins(p) {
			return api.ErrSyntax, at
		}
		last := len(open) - 1
		commas, known := map[string]int{"(": 0, "sqrt": 0, "sq": 0, "abs": 0, "min": 1, "max": 1}[p]
		behind := strings.TrimLeft(text[at+len(p):], " ")
		calls := letter.MatchString(p) && strings.HasPrefix(behind, "(")
		switch {
		case item && calls && !known:
			return api.ErrName, at
		case item && (calls || p == "("):
			at += strings.Index(text[at:], "(")
			if len(open) == api.MaxDepth {
				return api.ErrDeep, at
			}
			open = append(open, commas)
			continue
		case item && p == "-":
		case item && (letter.MatchString(p) || digit.MatchString(p)):
			item = false
		case !item && strings.Contains("+-*/", p):
			item = true
		case !item && p == "," && last >= 0 && open[last] > 0:
			open[last]--
			item = true
		case !item && p == ")" && last >= 0 && open[last] == 0:
			open = open[:last]
		default:
			return api.ErrSyntax, at
		}
		at += len(p) - 1
	}
	if item || len(open) > 0 {
		return api.ErrSyntax, len(text)
	}
	return api.OK, 0
}

func checkCheck(t *testing.T, text string) {
	t.Helper()
	e, at := hedge.Check(text)
	if f, want := wantCheck(text); e != f || at != want {
		t.Errorf("P6: Check(%q) = %d, %d, want %d, %d", text, e, at, f, want)
	}
}

// TestCheckRows has the document's row of examples, and its edges.
func TestCheckRows(t *testing.T) {
	eight := strings.Repeat("(", api.MaxDepth)
	for _, c := range []struct {
		text string
		e    api.Errno
		at   int
	}{
		{"1 + ", api.ErrSyntax, 4},
		{"1 2", api.ErrSyntax, 2},
		{"1.", api.ErrSyntax, 0},
		{"12345678", api.ErrSyntax, 0},
		{"sin(1)", api.ErrName, 0},
		{"min(1)", api.ErrSyntax, 5},
		{"sq(1, 2)", api.ErrSyntax, 4},
		{"((1)", api.ErrSyntax, 4},
		{"sqrt", api.OK, 0},

		{"", api.ErrSyntax, 0},
		{" ", api.ErrSyntax, 1},
		{"  -  ", api.ErrSyntax, 5},
		{"min(1,2", api.ErrSyntax, 7},
		{" - ( x + 1.5 ) * sq ( 2 ) / min ( 1 , y ) ", api.OK, 0},

		{strings.Repeat(" ", api.MaxText-1) + "x", api.OK, 0},
		{strings.Repeat(" ", api.MaxText) + "x", api.ErrLong, 0},
		{strings.Repeat("$", api.MaxText), api.ErrSyntax, 0},
		{strings.Repeat("$", api.MaxText+1), api.ErrLong, 0},
		{strings.Repeat("1+", api.MaxText/2), api.ErrSyntax, api.MaxText},

		{eight + "1" + strings.Repeat(")", api.MaxDepth), api.OK, 0},
		{eight + "(", api.ErrDeep, 8},
		{eight + " abs (", api.ErrDeep, 13},
		{eight + " no (", api.ErrName, 9},
		{eight + "1 (", api.ErrSyntax, 10},
		{eight + "1)+(1)", api.ErrSyntax, 14},
		{"(1)" + strings.Repeat("*(1)", 9), api.OK, 0},
		{strings.Repeat("max(0,", api.MaxDepth) + "1" + strings.Repeat(")", api.MaxDepth), api.OK, 0},
		{strings.Repeat("max(0,", api.MaxDepth) + "max(0,1)", api.ErrDeep, 51},
		{strings.Repeat("-", api.MaxText-1) + "1", api.OK, 0},

		{"1234567", api.OK, 0},
		{"1.234567", api.OK, 0},
		{"123456.7", api.OK, 0},
		{"1.2345678", api.ErrSyntax, 0},
		{"00000000", api.ErrSyntax, 0},
		{"2 * 1234567.8", api.ErrSyntax, 4},
		{"1. 5", api.ErrSyntax, 0},
		{"1 .5", api.ErrSyntax, 2},
		{"1.5.", api.ErrSyntax, 3},
		{"1.5.5", api.ErrSyntax, 3},
		{".", api.ErrSyntax, 0},
		{"1e3", api.ErrSyntax, 1},

		{"abcdef", api.OK, 0},
		{"abcdefg", api.ErrSyntax, 0},
		{"abcdefg(1)", api.ErrSyntax, 0},
		{"abcdef(1)", api.ErrName, 0},
		{"sq rt(1)", api.ErrSyntax, 3},
		{"x1", api.ErrSyntax, 1},
		{"aBc", api.ErrSyntax, 1},
		{"min + max(sq, abs)", api.OK, 0},
		{"Sq(1)", api.ErrSyntax, 0},
		{"sin(", api.ErrName, 0},
		{"sin (1, $)", api.ErrName, 0},
		{"$ + sin(1)", api.ErrSyntax, 0},
		{"sin(1) + $", api.ErrName, 0},
		{"1 + + sin(1)", api.ErrSyntax, 4},

		{"max(1,2,3)", api.ErrSyntax, 7},
		{"max(1)", api.ErrSyntax, 5},
		{"max()", api.ErrSyntax, 4},
		{"sq()", api.ErrSyntax, 3},
		{"sq(,1)", api.ErrSyntax, 3},
		{"abs(1,", api.ErrSyntax, 5},
		{"sqrt(1 , 2)", api.ErrSyntax, 7},
		{"min(1,(2,3))", api.ErrSyntax, 8},
		{"min(max(1,2),3)", api.OK, 0},
		{"min(sq(1,2),3)", api.ErrSyntax, 8},
		{"min(1,max(2))", api.ErrSyntax, 11},
		{",", api.ErrSyntax, 0},
		{")", api.ErrSyntax, 0},
		{"1)", api.ErrSyntax, 1},
		{"x(", api.ErrName, 0},

		{"1\n", api.ErrSyntax, 1},
		{"\t1", api.ErrSyntax, 0},
		{"x^2", api.ErrSyntax, 1},
		{"1 + \xff", api.ErrSyntax, 4},
		{"x + ü", api.ErrSyntax, 4},
		{"x\u00a0+ 1", api.ErrSyntax, 1},
		{"٣", api.ErrSyntax, 0},
		{"x\x00", api.ErrSyntax, 1},
	} {
		if e, at := hedge.Check(c.text); e != c.e || at != c.at {
			t.Errorf("P6: Check(%q) = %d, %d, want %d, %d", c.text, e, at, c.e, c.at)
		}
		checkCheck(t, c.text)
		checkRefused(t, c.text, c.e)
	}
}

// checkRefused: Eval tells the error of Check ahead of all that may be wrong with the map.
func checkRefused(t *testing.T, text string, e api.Errno) {
	t.Helper()
	if e == api.OK {
		return
	}
	for _, of := range []map[string]api.Interval{nil, {"x": iv(2, 1)}} {
		if i, f := hedge.Eval(text, of); f != e || !same(i, api.Interval{}) {
			t.Errorf("P7: Eval(%q) = %v, %d, want %d", text, i, f, e)
		}
	}
}

// TestCheckAllShort holds Check against the document at all texts of a few pieces.
func TestCheckAllShort(t *testing.T) {
	pieces := []string{"1", ".", "x", "(", ")", ",", "-", "*", " ", "sq", "min"}
	var all func(text string, left int)
	all = func(text string, left int) {
		checkCheck(t, text)
		if left == 0 {
			return
		}
		for _, p := range pieces {
			all(text+p, left-1)
		}
	}
	all("", 5)
}

// TestCheckDrawn: texts of many pieces, and expressions in which little is wrong.
func TestCheckDrawn(t *testing.T) {
	r := rand.New(rand.NewSource(6))
	pieces := strings.Split("1|.|x|(|)|,|-|+|/|*| |sq(|min(|max|sqrt (|sin|abcdefg|1234567|0.5|12345678|$|\xc3", "|")
	for range 30000 {
		var text strings.Builder
		for range r.Intn(30) {
			text.WriteString(pieces[r.Intn(len(pieces))])
		}
		checkCheck(t, text.String())
	}
	for range 30000 {
		text := drawTree(r, 5).text(r, 0)
		checkCheck(t, text)
		at := r.Intn(len(text) + 1)
		checkCheck(t, text[:at])
		checkCheck(t, text[:at]+pieces[r.Intn(len(pieces))]+text[at:])
		checkCheck(t, text[:at]+text[min(at+1, len(text)):])
	}
}

package hedge_test

// Expressions as trees: drawn, written as texts, and reckoned as the document says,
// once for intervals and once for real numbers.

import (
	"math/big"
	"math/rand"
	"strings"

	"hedge/api"
)

// tree is a number or variable, or an operation or function with its arguments.
type tree struct {
	word string
	args []tree
}

func isNumber(word string) bool { return digit.MatchString(word) }

var (
	leaves = strings.Fields("x y z w sqrt min x y z 0 1 2 3 0.5 0.1 7.25 1234567 0.000001 0.333333 9999999 16.0")
	ones   = strings.Fields("neg sqrt sq abs")
	twoOps = strings.Fields("+ - * / min max")
)

// drawTree is an expression with up to so many operations within each other.
func drawTree(r *rand.Rand, depth int) tree {
	if depth == 0 || r.Intn(6) == 0 {
		return tree{word: leaves[r.Intn(len(leaves))]}
	}
	if r.Intn(3) == 0 {
		return tree{ones[r.Intn(len(ones))], []tree{drawTree(r, depth-1)}}
	}
	return tree{twoOps[r.Intn(len(twoOps))], []tree{drawTree(r, depth-1), drawTree(r, depth-1)}}
}

// level is how closely an operation binds.
func (e tree) level() int {
	switch {
	case len(e.args) == 0:
		return 3
	case strings.Contains("+-", e.word):
		return 0
	case strings.Contains("*/", e.word):
		return 1
	case e.word == "neg":
		return 2
	}
	return 3
}

// text writes an expression that stands where one of that level must stand; spaces, and
// brackets that may be left out, are drawn.
func (e tree) text(r *rand.Rand, level int) string {
	own := e.level()
	if own < level || r.Intn(20) == 0 {
		return "(" + space(r) + e.text(r, 0) + space(r) + ")"
	}
	switch {
	case len(e.args) == 0:
		return e.word
	case e.word == "neg":
		return "-" + space(r) + e.args[0].text(r, own)
	case own < 2:
		return e.args[0].text(r, own) + space(r) + e.word + space(r) + e.args[1].text(r, own+1)
	}
	var args []string
	for _, a := range e.args {
		args = append(args, space(r)+a.text(r, 0)+space(r))
	}
	return e.word + space(r) + "(" + strings.Join(args, ",") + ")"
}

func space(r *rand.Rand) string { return strings.Repeat(" ", max(0, r.Intn(6)-3)) }

// want is what P7 says of an expression.
func (e tree) want(of map[string]api.Interval) (api.Interval, api.Errno) {
	var args []api.Interval
	for _, a := range e.args {
		i, errno := a.want(of)
		if errno != api.OK {
			return api.Interval{}, errno
		}
		args = append(args, i)
	}
	switch len(args) {
	case 1:
		return wantOne(e.word, args[0])
	case 2:
		return wantTwo(e.word, args[0], args[1])
	}
	if isNumber(e.word) {
		n := broadNumber(e.word)
		return iv(roundedDown(n), roundedUp(n)), api.OK
	}
	i, ok := of[e.word]
	if !ok {
		return api.Interval{}, api.ErrName
	}
	return iv(i.Lo+0, i.Hi+0), api.OK
}

func wantOne(word string, x api.Interval) (api.Interval, api.Errno) {
	switch word {
	case "sqrt":
		return wantSqrt(x)
	case "abs":
		return wantAbs(x), api.OK
	case "sq":
		y := wantAbs(x)
		return iv(roundedDown(exactProduct(y.Lo, y.Lo)), roundedUp(exactProduct(y.Hi, y.Hi))), api.OK
	}
	return iv(0-x.Hi, 0-x.Lo), api.OK
}

func wantAbs(x api.Interval) api.Interval {
	switch {
	case !(x.Lo < 0):
		return x
	case !(x.Hi > 0):
		return iv(0-x.Hi, 0-x.Lo)
	case -x.Lo > x.Hi:
		return iv(0, -x.Lo)
	}
	return iv(0, x.Hi)
}

func wantTwo(word string, x, y api.Interval) (api.Interval, api.Errno) {
	switch word {
	case "+":
		return wantAdd(x, y)
	case "-":
		return wantSub(x, y)
	case "*":
		return wantMul(x, y)
	case "/":
		return wantDiv(x, y)
	case "min":
		return iv(lesser(x.Lo, y.Lo), lesser(x.Hi, y.Hi)), api.OK
	}
	return iv(-lesser(-x.Lo, -y.Lo)+0, -lesser(-x.Hi, -y.Hi)+0), api.OK
}

func lesser(a, b float32) float32 {
	if a < b {
		return a
	}
	return b
}

// broad is a number with room for all that an expression of few operations is.
func broad() *big.Float { return new(big.Float).SetPrec(6000) }

func broadNumber(word string) *big.Float {
	n, _ := broad().SetString(word)
	return n
}

// truth is what an expression is of real numbers, as nearly as 6000 bits tell it.
// It takes only such as Eval finds no error in.
func (e tree) truth(of map[string]*big.Float) *big.Float {
	var args []*big.Float
	for _, a := range e.args {
		args = append(args, a.truth(of))
	}
	switch e.word {
	case "neg":
		return broad().Neg(args[0])
	case "abs":
		return broad().Abs(args[0])
	case "sq":
		return broad().Mul(args[0], args[0])
	case "+":
		return broad().Add(args[0], args[1])
	case "-":
		return broad().Sub(args[0], args[1])
	case "*":
		return broad().Mul(args[0], args[1])
	case "/":
		return broad().Quo(args[0], args[1])
	}
	return e.otherTruth(of, args)
}

func (e tree) otherTruth(of map[string]*big.Float, args []*big.Float) *big.Float {
	switch {
	case len(args) == 2:
		lesserFirst := args[0].Cmp(args[1]) < 0
		if lesserFirst == (e.word == "min") {
			return args[0]
		}
		return args[1]
	case len(args) == 1:
		return broad().Sqrt(args[0])
	case isNumber(e.word):
		return broadNumber(e.word)
	}
	return of[e.word]
}

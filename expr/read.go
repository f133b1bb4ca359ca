package expr

import (
	"hedge/api"
	"hedge/signs"
	"hedge/spans"
)

// reader reads a text by the document's grammar, with one method for each of its rules.
// Each stops at the first sign that may not stand where it stands, and tells by false
// that it has stopped; so the sign that is ahead then is the one at which the error is.
type reader struct {
	text      string
	ahead     signs.Sign // the first one that is not read yet
	open      int        // brackets
	functions map[string]function
	steps     []step
	errno     api.Errno
}

// Read is the expression that a text is, or the first error that is met in it, and its place.
func Read(text string) (Expression, api.Errno, int) {
	if len(text) > api.MaxText {
		return Expression{}, api.ErrLong, 0
	}
	r := reader{text: text, ahead: signs.Next(text, 0), functions: functions()}
	if !r.sum() || !r.must(signs.End) {
		return Expression{}, r.errno, r.ahead.At
	}
	return Expression{r.steps}, api.OK, 0
}

// stop tells that the sign ahead is an error.
func (r *reader) stop(errno api.Errno) bool {
	r.errno = errno
	return false
}

// must stops if the sign ahead is not of that kind.
func (r *reader) must(kind signs.Kind) bool {
	if r.ahead.Kind != kind {
		return r.stop(api.ErrSyntax)
	}
	return true
}

// written is the sign ahead as it stands in the text.
func (r *reader) written() string {
	return r.text[r.ahead.At:r.ahead.Behind]
}

// pass goes on to the next sign.
func (r *reader) pass() {
	r.ahead = signs.Next(r.text, r.ahead.Behind)
}

// then makes s the next step that is done.
func (r *reader) then(s step) {
	r.steps = append(r.steps, s)
}

func (r *reader) sum() bool {
	return r.row(r.product, inSum)
}

func (r *reader) product() bool {
	return r.row(r.power, inProduct)
}

// row reads parts with signs between them by which they are reckoned from the left to the right.
func (r *reader) row(part func() bool, between func(signs.Kind) op) bool {
	if !part() {
		return false
	}
	for {
		do := between(r.ahead.Kind)
		if do == none {
			return true
		}
		r.pass()
		if !part() {
			return false
		}
		r.then(step{op: do, args: 2})
	}
}

func inSum(kind signs.Kind) op {
	switch kind {
	case signs.Plus:
		return add
	case signs.Minus:
		return sub
	}
	return none
}

func inProduct(kind signs.Kind) op {
	switch kind {
	case signs.Times:
		return mul
	case signs.Over:
		return div
	}
	return none
}

func (r *reader) power() bool {
	if r.ahead.Kind != signs.Minus {
		return r.item()
	}
	r.pass()
	if !r.power() {
		return false
	}
	r.then(step{op: neg, args: 1})
	return true
}

func (r *reader) item() bool {
	// A bracket without a name is read as that of a function of one argument, with
	// which nothing is done.
	asked := function{none, 1}
	switch r.ahead.Kind {
	case signs.Number:
		r.then(step{op: number, value: decimal(r.written())})
		r.pass()
		return true
	case signs.Name:
		r.then(step{op: variable, name: r.written()})
		r.pass()
		return true
	case signs.Function:
		found, ok := r.functions[r.written()]
		if !ok {
			return r.stop(api.ErrName)
		}
		r.pass()
		asked = found
		fallthrough
	case signs.Open:
		return r.bracket(asked)
	default:
		return r.stop(api.ErrSyntax)
	}
}

// bracket reads a bracket with the arguments of what is asked for.
func (r *reader) bracket(asked function) bool {
	if r.open == api.MaxDepth {
		return r.stop(api.ErrDeep)
	}
	r.open++
	for n := range asked.args {
		if n > 0 && !r.must(signs.Comma) {
			return false
		}
		r.pass() // the bracket or the comma
		if !r.sum() {
			return false
		}
	}
	if !r.must(signs.Close) {
		return false
	}
	r.pass()
	r.open--
	if asked.op != none {
		r.then(step{op: asked.op, args: asked.args})
	}
	return true
}

// decimal is the number that digits, perhaps with a point, write.
func decimal(text string) api.Interval {
	digits, parts, behind := 0, 1, false
	for i := range len(text) {
		if text[i] == '.' {
			behind = true
			continue
		}
		digits = 10*digits + int(text[i]-'0')
		if behind {
			parts *= 10
		}
	}
	// MaxDigits digits are less than 2 to the 24: both are floats.
	return spans.Ratio(float32(digits), float32(parts))
}

// Package signs: the signs, numbers and names of which a text is made.
package signs

import "hedge/api"

// Kind is what a sign is.
type Kind int

const (
	None     Kind = iota // nothing that may stand in a text
	End                  // of the text
	Number               // digits, perhaps with a point
	Name                 // of a variable
	Function             // a name with a bracket behind it
	Plus
	Minus
	Times
	Over
	Open
	Close
	Comma
)

// Sign is a sign, number or name: the bytes of a text from At up to Behind.
type Sign struct {
	Kind   Kind
	At     int
	Behind int
}

// Next is the first sign of the text that begins at this place or, past spaces, behind it.
func Next(text string, at int) Sign {
	at = pastSpaces(text, at)
	if at == len(text) {
		return Sign{End, at, at}
	}
	switch c := text[at]; {
	case isDigit(c):
		return number(text, at)
	case isLetter(c):
		return name(text, at)
	default:
		return Sign{single(c), at, at + 1}
	}
}

// single is what a byte is that stands for itself.
func single(c byte) Kind {
	switch c {
	case '+':
		return Plus
	case '-':
		return Minus
	case '*':
		return Times
	case '/':
		return Over
	case '(':
		return Open
	case ')':
		return Close
	case ',':
		return Comma
	}
	return None
}

// number reads the number that begins with the digit at this place.
func number(text string, at int) Sign {
	behind := pastAll(text, at, isDigit)
	digits := behind - at
	if behind < len(text) && text[behind] == '.' {
		point := behind
		behind = pastAll(text, point+1, isDigit)
		if behind == point+1 {
			return Sign{None, at, behind}
		}
		digits = behind - at - 1
	}
	if digits > api.MaxDigits {
		return Sign{None, at, behind}
	}
	return Sign{Number, at, behind}
}

// name reads the name that begins with the letter at this place.
func name(text string, at int) Sign {
	behind := pastAll(text, at, isLetter)
	if behind-at > api.MaxName {
		return Sign{None, at, behind}
	}
	next := pastSpaces(text, behind)
	if next < len(text) && text[next] == '(' {
		return Sign{Function, at, behind}
	}
	return Sign{Name, at, behind}
}

func pastSpaces(text string, at int) int {
	return pastAll(text, at, isSpace)
}

// pastAll is the first place, from at on, whose byte is not of that kind.
func pastAll(text string, at int, of func(c byte) bool) int {
	for at < len(text) && of(text[at]) {
		at++
	}
	return at
}

func isSpace(c byte) bool { return c == ' ' }

func isDigit(c byte) bool { return '0' <= c && c <= '9' }

func isLetter(c byte) bool { return 'a' <= c && c <= 'z' }

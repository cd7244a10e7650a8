package bre

import (
	"iter"
	"strings"

	"runnel/api"
	"runnel/bracket"
	"runnel/bset"
)

// kind says what a token is.
type kind int

const (
	fault     kind = iota // e: no token can be read here
	oneByte               // one byte of set
	beginning             // ^ that holds at the subject's beginning
	end                   // $ that holds at the subject's end
	opening               // \(
	closing               // \)
	back                  // \ and group
	repeat                // * or an interval: lo to hi times
)

// token is the least piece of a BRE that means something by itself.
type token struct {
	kind     kind
	from, to int // the places ahead of it and behind it
	e        api.Errno
	set      api.Set
	group    int
	lo, hi   int
}

// tokens gives the tokens of a BRE, up to its end or the first fault.
func tokens(text string) iter.Seq[token] {
	return func(yield func(token) bool) {
		// What a BRE begins with means what it would mean behind a \( .
		ahead := opening
		for at := 0; at < len(text); {
			t := readToken(text, at, ahead)
			if !yield(t) || t.kind == fault {
				return
			}
			at, ahead = t.to, t.kind
		}
	}
}

// readToken reads the token at a place; ahead is what stands directly ahead of it.
func readToken(text string, at int, ahead kind) token {
	b, next := text[at], at+1
	switch {
	case b == '\\':
		return readEscape(text, at, ahead)
	case b == '[':
		return readBracket(text, at)
	case b == '.':
		return token{kind: oneByte, from: at, to: next, set: bset.Not(api.Set{})}
	case b == '^' && ahead == opening:
		return token{kind: beginning, from: at, to: next}
	case b == '$' && (next == len(text) || strings.HasPrefix(text[next:], `\)`)):
		return token{kind: end, from: at, to: next}
	case b == '*' && repeatable(ahead):
		return token{kind: repeat, from: at, to: next, hi: -1}
	}
	return itself(b, at, next)
}

// repeatable tells whether a part stands ahead that can be repeated.
func repeatable(ahead kind) bool {
	return ahead != opening && ahead != beginning
}

// itself is the token of a byte that stands for itself.
func itself(b byte, from, to int) token {
	return token{kind: oneByte, from: from, to: to, set: bset.Of(string([]byte{b}))}
}

// faulty is the token of a fault at a place.
func faulty(e api.Errno, at int) token {
	return token{kind: fault, from: at, e: e}
}

// readBracket reads a bracket expression.
func readBracket(text string, at int) token {
	set, next, e := bracket.Parse(text, at)
	if e != api.OK {
		return faulty(e, at)
	}
	return token{kind: oneByte, from: at, to: next, set: set}
}

// readEscape reads a backslash and what belongs to it.
func readEscape(text string, at int, ahead kind) token {
	if at+1 == len(text) {
		return faulty(api.ErrEnd, at)
	}
	b, next := text[at+1], at+2
	switch {
	case b == '(':
		return token{kind: opening, from: at, to: next}
	case b == ')':
		return token{kind: closing, from: at, to: next}
	case b == '{' && repeatable(ahead):
		return readInterval(text, at)
	case b == '{' || b == '}':
		return faulty(api.ErrRepeat, at)
	case b == 'n':
		return itself('\n', at, next)
	case b != '0' && isDigit(b):
		return token{kind: back, from: at, to: next, group: int(b - '0')}
	case isDigit(b) || isLetter(b):
		return faulty(api.ErrEscape, at)
	}
	return itself(b, at, next)
}

// readInterval reads an interval, whose \{ stands at the place.
func readInterval(text string, at int) token {
	inner, _, closed := strings.Cut(text[at+2:], `\}`)
	low, high, two := strings.Cut(inner, ",")
	lo, ok := readNumber(low)
	hi := lo
	if two && high == "" {
		hi = -1
	} else if two {
		var right bool
		hi, right = readNumber(high)
		ok = ok && right && lo <= hi
	}
	if !closed || !ok {
		return faulty(api.ErrRepeat, at)
	}
	return token{kind: repeat, from: at, to: at + len(`\{`+inner+`\}`), lo: lo, hi: hi}
}

// readNumber reads a number of an interval, and tells whether it is one.
func readNumber(digits string) (int, bool) {
	number := 0
	for i := range len(digits) {
		if !isDigit(digits[i]) {
			return 0, false
		}
		// Held right above what may be, so that no row of digits overflows.
		number = min(number*10+int(digits[i]-'0'), api.MaxDup+1)
	}
	return number, digits != "" && number <= api.MaxDup
}

func isDigit(b byte) bool {
	return '0' <= b && b <= '9'
}

func isLetter(b byte) bool {
	return 'a' <= b && b <= 'z' || 'A' <= b && b <= 'Z'
}

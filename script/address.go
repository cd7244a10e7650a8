package script

import (
	"runnel/api"
	"runnel/scan"
)

// addresses reads a command's addresses, as many as there are.
func (r *reader) addresses() (a, b api.Address) {
	a = r.address()
	if a.Kind == api.ANone {
		return a, b
	}
	r.blanks()
	if !r.meets(",") {
		return a, b
	}
	r.at++
	r.blanks()
	b = r.address()
	if b.Kind == api.ANone {
		giveUp(api.ErrAddress, r.at)
	}
	return a, b
}

// address reads an address, if one stands here.
func (r *reader) address() api.Address {
	first := r.at
	switch {
	case r.meets("0123456789"):
		return r.line()
	case r.meets("$"):
		r.at++
		return api.Address{Kind: api.ALast}
	case r.meets("/"):
		return r.match(first)
	case r.meets("\\"):
		r.at++
		return r.match(first)
	}
	return api.Address{}
}

// line reads the number of a line.
func (r *reader) line() api.Address {
	number, next, e := scan.Number(r.text, r.at)
	if e != api.OK || number == 0 {
		giveUp(api.ErrAddress, r.at)
	}
	r.at = next
	return api.Address{Kind: api.ALine, Line: number}
}

// match reads a BRE between delimiters; its faults are told at the address's first byte.
func (r *reader) match(first int) api.Address {
	delim := r.delimiter(api.ErrAddress, first)
	re := r.until(delim, false, first)
	groups(re, first)
	return api.Address{Kind: api.AMatch, Re: re}
}

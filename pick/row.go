package pick

import (
	"runnel/api"
	"runnel/matcher"
)

// moment is a line of which a row is asked.
type moment struct {
	line  int
	last  bool
	space string
}

// row is what chooses the lines of one command, and whether its range goes on.
type row struct {
	a, b        address
	not, goesOn bool
}

// address is an api.Address whose BRE was read; without one, an AMatch means the BRE used last.
type address struct {
	kind, line int
	re         *matcher.Matcher
}

// readRow makes a row of a given one, or tells its first fault.
func readRow(given api.Row) (row, api.Errno) {
	a, e := readAddress(given.A)
	if e != api.OK {
		return row{}, e
	}
	b, e := readAddress(given.B)
	if e != api.OK {
		return row{}, e
	}
	if a.kind == api.ANone && b.kind != api.ANone {
		return row{}, api.ErrAddress
	}
	return row{a: a, b: b, not: given.Not}, api.OK
}

// readAddress reads the BRE of an address, if it has one.
func readAddress(given api.Address) (address, api.Errno) {
	switch given.Kind {
	case api.ANone, api.ALast:
		return address{kind: given.Kind}, api.OK
	case api.ALine:
		if given.Line < 1 {
			return address{}, api.ErrAddress
		}
		return address{kind: api.ALine, line: given.Line}, api.OK
	case api.AMatch:
		return readMatch(given.Re)
	}
	return address{}, api.ErrAddress
}

// readMatch makes the address of a BRE's text.
func readMatch(text string) (address, api.Errno) {
	if text == "" {
		return address{kind: api.AMatch}, api.OK
	}
	re, fault := matcher.New(text)
	return address{kind: api.AMatch, re: re}, fault.E
}

// isPast tells whether a range that goes on has ended ahead of a line: lines may have been left out.
func (r *row) isPast(now moment) bool {
	return r.b.kind == api.ALine && now.line > r.b.line
}

// opens tells whether a range begins at a line that A meets.
func (r *row) opens(now moment) bool {
	switch r.b.kind {
	case api.ALine:
		return now.line < r.b.line
	case api.ALast:
		return !now.last
	}
	return r.b.kind == api.AMatch
}

package matcher

import (
	"runnel/api"
	"runnel/backmatch"
	"runnel/setmatch"
)

// way is a way of matching: it answers the match in a subject from a place on, and the steps that it took.
type way func(subject string, from int) ([]api.Span, bool, int, api.Errno)

// expression is the text of a BRE that has no fault.
type expression string

// bySets is the way of BREs without back-references.
func (x expression) bySets(subject string, from int) ([]api.Span, bool, int, api.Errno) {
	return setmatch.Match(string(x), subject, from)
}

// byWays is the way of all others. Their steps are the bytes that the search has come past.
func (x expression) byWays(subject string, from int) ([]api.Span, bool, int, api.Errno) {
	spans, found, e := backmatch.Match(string(x), subject, from)
	switch {
	case e != api.OK:
		return nil, false, 0, e
	case !found:
		return nil, false, len(subject) - from, api.OK
	}
	return spans, true, spans[0].To - from, api.OK
}

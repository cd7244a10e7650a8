package backmatch

import (
	"slices"

	"runnel/api"
	"runnel/tally"
)

// spans are what the groups have matched so far, by their numbers.
type spans [api.MaxGroups + 1]api.Span

// search goes through the derivations from a place. It goes only where the table knows of a way to the end: so it has no more of them to try
// than there are ways. What matches nothing does so in one way, and isn't gone into.
type search struct {
	table   *tally.Table
	subject string
	stack   []state // those that are left to try
	lengths []int   // of the derivation that is tried; a part's own is set when it closes
	best    []int   // the lengths of the derivation that is ahead of all others so far
	spans   spans   // the spans of that one
}

// state is how far a derivation has come.
type state struct {
	open    *frame // the innermost open part; nil, if all are closed
	gone    int    // how many of its links were gone through
	passing bool   // the next of its links is to take no byte
	place   int
	lengths int // how many of the lengths are known or have their room
	spans   spans
}

// frame is an open part. It was opened to take a byte or more. Derivations share it: so it is never changed.
type frame struct {
	part  *tally.Part
	base  int    // the number of its first position
	from  int    // where it was opened
	entry int    // where its length stands
	up    *frame // what it stands in; nil, if it is the whole
	gone  int    // how many links of that one are gone through when it closes
}

// from answers the spans of the derivation from a place that is ahead of all others; false, if there is none.
func (s *search) from(at int) (spans, bool) {
	whole, groups := s.table.Whole, unmatched()
	s.best = nil
	if s.table.Enters(whole, 0, at) {
		s.lengths = append(s.lengths[:0], 0)
		s.stack = append(s.stack, state{open: &frame{part: whole, from: at}, place: at, lengths: 1, spans: groups})
		s.try()
	}
	if s.best != nil {
		return s.spans, true
	}
	// Only if none takes a byte, the one that matches nothing is the longest.
	groups[0] = api.Span{From: at, To: at}
	found := s.table.Nothing(whole, at) && empty(whole, at, &groups)
	return groups, found
}

// try goes on from the states of the stack until none is left.
func (s *search) try() {
derivations:
	for len(s.stack) > 0 {
		now := s.stack[len(s.stack)-1]
		s.stack = s.stack[:len(s.stack)-1]
		s.lengths = s.lengths[:now.lengths]
		for now.open != nil {
			if !s.step(&now) {
				continue derivations
			}
		}
		s.keep(now)
	}
}

// keep keeps a whole derivation, if it is ahead of all others so far.
func (s *search) keep(now state) {
	if slices.Compare(s.lengths, s.best) > 0 {
		s.best = slices.Clone(s.lengths)
		s.spans = now.spans
	}
}

// step goes through the next link of the open part; false, if that can't be. If the link can take a byte or none, the latter is left for later.
func (s *search) step(now *state) bool {
	link, more := now.open.part.Link(now.gone)
	if !more {
		return s.close(now)
	}
	base := now.open.base + link.Base
	passes := link.Free || s.table.Nothing(link.Part, now.place)
	switch {
	case now.passing || !s.table.Enters(link.Part, base, now.place):
		now.passing = false
		return passes && s.pass(now, link)
	case passes:
		later := *now
		later.passing = true
		s.stack = append(s.stack, later)
	}
	return s.enter(now, link.Part, base)
}

// enter lets a part take a byte or more.
func (s *search) enter(now *state, p *tally.Part, base int) bool {
	switch p.Kind {
	case api.KByte:
		s.went(now, 1)
		now.place++
		return true
	case api.KBack:
		return s.repeat(now, p.Group, base)
	}
	s.went(now, 0)
	now.open = &frame{part: p, base: base, from: now.place, entry: now.lengths - 1, up: now.open, gone: now.gone}
	now.gone = 0
	return true
}

// repeat takes what a group has matched, if that is a byte or more, once more.
func (s *search) repeat(now *state, group, base int) bool {
	piece := now.spans[group]
	length := piece.To - piece.From
	to := now.place + length
	if length == 0 || to > len(s.subject) || s.subject[now.place:to] != s.subject[piece.From:piece.To] || !s.table.Leads(base, to) {
		return false
	}
	s.went(now, length)
	now.place = to
	return true
}

// went sets down the length of a link that is gone through. One that is gone into has only its room there so far.
func (s *search) went(now *state, length int) {
	s.lengths = append(s.lengths, length)
	now.lengths++
	now.gone++
}

// pass lets a link take no byte: what is free is left out, and all behind it; what isn't matches nothing.
func (s *search) pass(now *state, link tally.Link) bool {
	if link.Free {
		return s.close(now)
	}
	s.went(now, 0)
	return empty(link.Part, now.place, &now.spans)
}

// close ends the open part; false, if it has taken no byte.
func (s *search) close(now *state) bool {
	f := now.open
	if now.place == f.from {
		return false
	}
	s.lengths[f.entry] = now.place - f.from
	piece := api.Span{From: f.from, To: now.place}
	switch {
	case f.up == nil:
		now.spans[0] = piece
	case f.part.Kind == api.KGroup:
		now.spans[f.part.Group] = piece
	}
	now.open, now.gone = f.up, f.gone
	return true
}

// empty lets a part, and the groups in it, match nothing at a place where it can; false, if a back-reference in it can't.
func empty(p *tally.Part, at int, groups *spans) bool {
	if p.Kind == api.KBack {
		piece := groups[p.Group]
		return piece.From >= 0 && piece.From == piece.To
	}
	for i, l := range p.Links {
		// Further iterations do as the first: what it has set they set to the same, and all else is as it was.
		if l.Free || p.Kind == api.KRepeat && i > 0 {
			break
		}
		if !empty(l.Part, at, groups) {
			return false
		}
	}
	if p.Kind == api.KGroup {
		groups[p.Group] = api.Span{From: at, To: at}
	}
	return true
}

// unmatched answers the spans of groups that have matched nothing so far.
func unmatched() spans {
	var none spans
	for i := range none {
		none[i] = api.Span{From: -1, To: -1}
	}
	return none
}

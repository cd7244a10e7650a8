package setmatch

import "runnel/api"

// search looks for a match, and then for what its groups have matched.
type search struct {
	walk
	tried []positions // those that took part in the search for a start, by the place
	spans []api.Span
}

// find answers the first and then longest match from a place on.
func (s *search) find(whole *part, from int) (api.Span, bool) {
	s.tried = make([]positions, len(s.subject))
starts:
	for at := from; at <= len(s.subject); at++ {
		border := whole.borders[s.kind(at)]
		waiting, to := border.first, -1
		if border.nothing {
			to = at
		}
		for place := at; ; place++ {
			waiting = s.untried(waiting, place)
			if waiting.none() {
				if to < at {
					continue starts
				}
				return api.Span{From: at, To: to}, true
			}
			took := s.takers(whole, waiting, place)
			if took.meets(whole.borders[s.kind(place+1)].last) {
				to = place + 1
			}
			waiting = whole.onward(took)
		}
	}
	return api.Span{}, false
}

// untried answers those of some positions that were not tried at a place so far, and none at the end, where there is no byte.
// What led to no end from one start leads to none from another: so all starts together are one walk.
func (s *search) untried(waiting positions, place int) positions {
	if place == len(s.subject) {
		return positions{}
	}
	waiting = waiting.without(s.tried[place])
	s.tried[place] = s.tried[place].or(waiting)
	return waiting
}

// settle finds what the groups of a part have matched, if it matches a piece: each link, as it comes, takes as much as it may.
// Which way a link goes within what it takes is its own matter, for no other link can tell.
func (s *search) settle(p *part, piece api.Span) {
	if !p.deep {
		return
	}
	if p.group > 0 {
		s.spans[p.group] = piece
	}
	count := s.share(p, piece)
	// With no byte left what must still come matches nothing.
	nothing := api.Span{From: piece.To, To: piece.To}
	for ; count < len(p.links); count++ {
		if l := &p.links[count]; !l.free {
			s.settle(l.part, nothing)
		}
	}
}

// share gives the bytes of a piece to the links of a part, and answers how many links it took to use them up.
func (s *search) share(p *part, piece api.Span) int {
	if piece.From == piece.To {
		return 0
	}
	if p.alone() {
		s.settle(p.links[0].part, piece)
		return 1
	}
	t := s.trace(p, piece)
	count := 0
	for at := piece.From; at < piece.To; count++ {
		l := &p.links[min(count, len(p.links)-1)]
		to := s.longest(l, at, t)
		s.settle(l.part, api.Span{From: at, To: to})
		at = to
	}
	return count
}

// longest answers how far a link can go from a place on a trail. All positions of the trail lead to its end: so where none of
// the link's own goes on, the link can end, and what stands behind it goes on.
func (s *search) longest(l *link, at int, t trail) int {
	waiting := l.part.borders[s.kind(at)].first
	for ; at < t.piece.To; at++ {
		took := waiting.and(t.at(at).down(l.base))
		if took.none() {
			break
		}
		waiting = l.part.onward(took)
	}
	return at
}

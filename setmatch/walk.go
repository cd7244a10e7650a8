package setmatch

import (
	"runnel/api"
	"runnel/bset"
)

// walk goes over a subject.
type walk struct {
	subject string
	held    int // how many of its bytes were held against a position
}

// kind answers the kind of a place.
func (w *walk) kind(place int) int {
	kind := inner
	if place == 0 {
		kind |= beginning
	}
	if place == len(w.subject) {
		kind |= end
	}
	return kind
}

// takes holds the byte behind a place against a position.
func (w *walk) takes(p *part, number, place int) bool {
	w.held++
	return bset.Has(p.takes[number], w.subject[place])
}

// takers answers those of some positions that take the byte behind a place.
func (w *walk) takers(p *part, waiting positions, place int) positions {
	var took positions
	for number := range waiting.all() {
		if w.takes(p, number, place) {
			took.add(number)
		}
	}
	return took
}

// trail tells of each place of a piece which positions can take the byte behind it, on a way of a part that ends where the piece does.
type trail struct {
	piece  api.Span
	useful []positions
}

// at answers the positions that are of use at a place of the piece.
func (t trail) at(place int) positions {
	return t.useful[place-t.piece.From]
}

// trace goes back over a piece that a part matches.
func (w *walk) trace(p *part, piece api.Span) trail {
	t := trail{piece: piece, useful: make([]positions, piece.To-piece.From)}
	wanted := p.borders[w.kind(piece.To)].last
	for place := piece.To - 1; place >= piece.From; place-- {
		took := w.takers(p, wanted, place)
		t.useful[place-piece.From] = took
		wanted = positions{}
		for number, next := range p.next {
			if next.meets(took) {
				wanted.add(number)
			}
		}
	}
	return t
}

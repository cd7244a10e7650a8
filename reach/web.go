package reach

import (
	"slices"

	"runnel/api"
	"runnel/bset"
)

// The kinds of a place, as far as anchors can tell places apart: a place may be the beginning, the end, both or neither.
const (
	inner     = 0
	beginning = 1
	end       = 2
	kinds     = 4
)

// kindOf answers the kind of a place.
func kindOf(place int, subject string) int {
	kind := inner
	if place == 0 {
		kind |= beginning
	}
	if place == len(subject) {
		kind |= end
	}
	return kind
}

// border is what of a part can be seen at a place of one kind.
// A BRE has at most MaxRe positions, so that their numbers are bytes, and sets of bytes are sets of positions.
type border struct {
	nothing bool    // it can match nothing there
	first   api.Set // the positions that can take its first byte, if it begins there
	last    api.Set // the positions that can take its last byte, if it ends there
}

// part is a piece of a BRE: its borders, by the kind of the place.
type part [kinds]border

// position is a byte of a BRE with its repeats written out.
type position struct {
	takes api.Set // the bytes that it takes
	next  api.Set // the positions that can take the byte behind
	prior api.Set // the positions that can take the byte ahead
}

// web is a BRE as its positions. It is no greater than the BRE, and a walk along it goes one step for each byte of a subject,
// however deep repeats stand in repeats.
type web struct {
	positions []position
	whole     part
}

// weave makes the web of a tree without back-references.
func weave(tree api.Re) *web {
	w := &web{}
	w.whole = w.add(tree)
	return w
}

// add lays the positions of a tree.
func (w *web) add(r api.Re) part {
	switch r.Kind {
	case api.KByte:
		return w.addPosition(r.Set)
	case api.KBol:
		return anchor(beginning)
	case api.KEol:
		return anchor(end)
	case api.KRepeat:
		return w.addRepeat(r.Kids[0], r.Lo, r.Hi)
	}
	all := empty()
	for _, kid := range r.Kids {
		all = w.join(all, w.add(kid))
	}
	return all
}

// addPosition lays a position that takes the bytes of a set.
func (w *web) addPosition(takes api.Set) part {
	own := only(byte(len(w.positions)))
	w.positions = append(w.positions, position{takes: takes})
	var p part
	for kind := range p {
		p[kind] = border{first: own, last: own}
	}
	return p
}

// addRepeat lays a tree as often as it may be there or, if that has no bound, as it must, each time with a way back.
// That iterations beyond lo match a byte needs no care: one that matches nothing leads nowhere new.
func (w *web) addRepeat(kid api.Re, lo, hi int) part {
	written := hi
	if hi < 0 {
		written = max(lo, 1)
	}
	all := empty()
	for count := range written {
		size := len(w.positions)
		p := w.add(kid)
		if hi < 0 {
			w.link(p, p)
		}
		if count >= lo {
			p = optional(p)
		}
		all = w.join(all, p)
		// What takes no byte is the same once and often; repeats of it in repeats would never be written out.
		if len(w.positions) == size {
			break
		}
	}
	return all
}

// join puts two parts one behind the other.
func (w *web) join(a, b part) part {
	w.link(a, b)
	var both part
	for kind := range both {
		x, y := a[kind], b[kind]
		both[kind] = border{nothing: x.nothing && y.nothing, first: x.first, last: y.last}
		if x.nothing {
			both[kind].first = bset.Or(x.first, y.first)
		}
		if y.nothing {
			both[kind].last = bset.Or(x.last, y.last)
		}
	}
	return both
}

// link lets the first byte of b follow on the last of a. The place between two bytes is neither beginning nor end.
func (w *web) link(a, b part) {
	ahead, behind := a[inner].last, b[inner].first
	if ahead == (api.Set{}) || behind == (api.Set{}) {
		return
	}
	for p := range bset.Members(ahead) {
		w.positions[p].next = bset.Or(w.positions[p].next, behind)
	}
	for p := range bset.Members(behind) {
		w.positions[p].prior = bset.Or(w.positions[p].prior, ahead)
	}
}

// empty is a part that matches nothing, at every place.
func empty() part {
	return optional(part{})
}

// anchor is a part that matches nothing, at places of a kind alone.
func anchor(wanted int) part {
	var p part
	for kind := range p {
		p[kind].nothing = kind&wanted != 0
	}
	return p
}

// optional is a part that may be left out.
func optional(p part) part {
	for kind := range p {
		p[kind].nothing = true
	}
	return p
}

// ends answers where derivations from a place end, rising.
func (w *web) ends(subject string, at int) []int {
	var found []int
	now := w.whole[kindOf(at, subject)]
	if now.nothing {
		found = append(found, at)
	}
	// Those that wait to take the byte behind the place.
	waiting := now.first
	for place := at; place < len(subject); place++ {
		took := w.takers(waiting, subject[place])
		if meet(took, w.whole[kindOf(place+1, subject)].last) {
			found = append(found, place+1)
		}
		waiting = w.behind(took)
	}
	return found
}

// starts answers from where derivations come that end at a place for which isEnd holds, rising.
func (w *web) starts(subject string, isEnd func(place int) bool) []int {
	var found []int
	// Those that took the byte behind the place, on a way to an end.
	var took api.Set
	for place := len(subject); place >= 0; place-- {
		now := w.whole[kindOf(place, subject)]
		ending := isEnd(place)
		if ending && now.nothing || meet(took, now.first) {
			found = append(found, place)
		}
		if place == 0 {
			break
		}
		waiting := w.ahead(took)
		if ending {
			waiting = bset.Or(waiting, now.last)
		}
		took = w.takers(waiting, subject[place-1])
	}
	slices.Reverse(found)
	return found
}

// takers answers those of some positions that take a byte.
func (w *web) takers(waiting api.Set, b byte) api.Set {
	var took api.Set
	for p := range bset.Members(waiting) {
		if bset.Has(w.positions[p].takes, b) {
			took = bset.Or(took, only(p))
		}
	}
	return took
}

// behind answers the positions that can take the byte behind one that any of some took.
func (w *web) behind(took api.Set) api.Set {
	var all api.Set
	for p := range bset.Members(took) {
		all = bset.Or(all, w.positions[p].next)
	}
	return all
}

// ahead answers the positions that can take the byte ahead of one that any of some took.
func (w *web) ahead(took api.Set) api.Set {
	var all api.Set
	for p := range bset.Members(took) {
		all = bset.Or(all, w.positions[p].prior)
	}
	return all
}

// meet tells whether two sets have a position in common.
func meet(a, b api.Set) bool {
	return bset.And(a, b) != api.Set{}
}

// only is the set of one position.
func only(number byte) api.Set {
	return bset.Of(string([]byte{number}))
}

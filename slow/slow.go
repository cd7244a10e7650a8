// Package slow writes derivations down one by one, by the words of the document's section 'Matching'. It is there for tests, which hold the layers against it.
package slow

import (
	"iter"
	"slices"

	"runnel/api"
	"runnel/bset"
)

// Derivation is one: where it ends, its lengths, and its spans.
type Derivation struct {
	To      int
	Lengths []int
	Spans   []api.Span
}

// maker makes derivations in a subject; if it is relaxed, back-references match any piece.
type maker struct {
	subject string
	relaxed bool
}

// All gives all derivations of a tree with so many groups from a place, or all relaxed ones.
func All(tree api.Re, groups int, subject string, at int, relaxed bool) iter.Seq[Derivation] {
	none := slices.Repeat([]api.Span{{From: -1, To: -1}}, groups+1)
	m := maker{subject, relaxed}
	return func(yield func(Derivation) bool) {
		for d := range m.derive(tree, Derivation{To: at, Spans: none}) {
			d.Spans = slices.Clone(d.Spans)
			d.Spans[0] = api.Span{From: at, To: d.To}
			if !yield(d) {
				return
			}
		}
	}
}

// Best answers the derivation from a place that is ahead of all others; false, if there is none.
func Best(tree api.Re, groups int, subject string, at int) (Derivation, bool) {
	var best Derivation
	found := false
	for d := range All(tree, groups, subject, at, false) {
		if !found || slices.Compare(d.Lengths, best.Lengths) > 0 {
			best, found = d, true
		}
	}
	return best, found
}

// Count answers how many ways there are from a place, most and one if there are more than most.
func Count(tree api.Re, groups int, subject string, at, most int) int {
	count := 0
	for range All(tree, groups, subject, at, true) {
		count++
		if count > most {
			break
		}
	}
	return count
}

// derive gives the derivations of a tree behind what stands ahead of it.
func (m maker) derive(r api.Re, ahead Derivation) iter.Seq[Derivation] {
	from, mark := ahead.To, len(ahead.Lengths)
	begun := ahead
	// The length of the whole stands ahead of its parts': its room is kept, and filled when the end is known.
	begun.Lengths = append(slices.Clone(ahead.Lengths), 0)
	return func(yield func(Derivation) bool) {
		for d := range m.inside(r, begun) {
			d.Lengths = slices.Clone(d.Lengths)
			d.Lengths[mark] = d.To - from
			if r.Kind == api.KGroup {
				d.Spans = slices.Clone(d.Spans)
				d.Spans[r.Group] = api.Span{From: from, To: d.To}
			}
			if !yield(d) {
				return
			}
		}
	}
}

// inside gives the derivations of what stands in a tree.
func (m maker) inside(r api.Re, begun Derivation) iter.Seq[Derivation] {
	switch r.Kind {
	case api.KRepeat:
		return m.iterate(r, begun, 0)
	case api.KCat, api.KGroup:
		return m.row(r.Kids, begun)
	}
	return func(yield func(Derivation) bool) {
		for _, to := range m.ends(r, begun) {
			d := begun
			d.To = to
			if !yield(d) {
				return
			}
		}
	}
}

// ends answers where a tree without Kids can end.
func (m maker) ends(r api.Re, begun Derivation) []int {
	from, end := begun.To, len(m.subject)
	switch {
	case r.Kind == api.KBack && m.relaxed:
		var all []int
		for to := from; to <= end; to++ {
			all = append(all, to)
		}
		return all
	case r.Kind == api.KBack:
		piece := begun.Spans[r.Group]
		to := from + piece.To - piece.From
		if piece.From >= 0 && to <= end && m.subject[from:to] == m.subject[piece.From:piece.To] {
			return []int{to}
		}
	case r.Kind == api.KByte && from < end && bset.Has(r.Set, m.subject[from]):
		return []int{from + 1}
	case r.Kind == api.KBol && from == 0, r.Kind == api.KEol && from == end:
		return []int{from}
	}
	return nil
}

// row gives the derivations of trees that stand one behind the other.
func (m maker) row(kids []api.Re, done Derivation) iter.Seq[Derivation] {
	return func(yield func(Derivation) bool) {
		if len(kids) == 0 {
			yield(done)
			return
		}
		for d := range m.derive(kids[0], done) {
			for longer := range m.row(kids[1:], d) {
				if !yield(longer) {
					return
				}
			}
		}
	}
}

// iterate gives the derivations of a repeat of which some iterations are done.
func (m maker) iterate(r api.Re, done Derivation, count int) iter.Seq[Derivation] {
	return func(yield func(Derivation) bool) {
		if count >= r.Lo && !yield(done) || count == r.Hi {
			return
		}
		for d := range m.derive(r.Kids[0], done) {
			if count >= r.Lo && d.To == done.To {
				continue
			}
			for longer := range m.iterate(r, d, count+1) {
				if !yield(longer) {
					return
				}
			}
		}
	}
}

// Package tally lays a BRE out by its positions, with back-references that match any text, and counts the ways to go on behind each of them.
// What it answers is shared by the layers ways and backmatch.
package tally

import (
	"runnel/api"
	"runnel/bset"
)

// Part is a piece of a BRE with its repeats written out. Its positions are numbered from 0 on within it; where it stands, a base is added.
type Part struct {
	Kind  int    // the kind of its tree
	Group int    // the number of the group that it is, or that it refers to
	Links []Link // what stands in it, one behind the other: parts, or iterations of one part
	again bool   // the last link may be gone through any number of times
	set   api.Set
	size  int // how many positions it has
	edges edges
}

// Link is one of the parts that stand in a part.
type Link struct {
	Part   *Part
	Base   int    // the number of its first position within what it stands in
	Free   bool   // it may be left out, with all behind it; if it is there, it takes a byte
	behind []step // which positions can take the byte behind its last one, within what it stands in
}

// Link answers the link behind so many that were gone through; false, if there is none.
func (p *Part) Link(gone int) (Link, bool) {
	if gone < len(p.Links) {
		return p.Links[gone], true
	}
	if !p.again {
		return Link{}, false
	}
	last := p.Links[len(p.Links)-1]
	last.Free = true
	return last, true
}

// lay makes the parts of a tree.
func lay(r api.Re) *Part {
	p := &Part{Kind: r.Kind, Group: r.Group}
	switch r.Kind {
	case api.KByte:
		p.take(r.Set, false)
	case api.KBack:
		p.take(bset.Not(api.Set{}), true)
	case api.KBol:
		p.edges = anchor(beginning)
	case api.KEol:
		p.edges = anchor(end)
	case api.KRepeat:
		p.addRepeat(r)
		p.join()
	default:
		for _, kid := range r.Kids {
			p.add(lay(kid), false)
		}
		p.join()
	}
	return p
}

// take makes a part of one position.
func (p *Part) take(set api.Set, nothing bool) {
	p.set, p.size = set, 1
	for kind := range p.edges {
		p.edges[kind] = edge{nothing: nothing, first: []step{{0, 1}}, last: []step{{0, 1}}}
	}
}

// addRepeat lays a repeat's iterations: as many as there may be or, if that has no bound, as there must be.
func (p *Part) addRepeat(r api.Re) {
	if r.Hi == 0 {
		return
	}
	kid := lay(r.Kids[0])
	if kid.size == 0 {
		// What takes no byte is the same once and often, and only there where it must be.
		if r.Lo > 0 {
			p.add(kid, false)
		}
		return
	}
	written := r.Hi
	if r.Hi < 0 {
		// A further iteration goes on as the last one that is written does: so it can have the same positions.
		written = max(r.Lo, 1)
		p.again = true
	}
	for count := range written {
		p.add(kid, count >= r.Lo)
	}
}

// add lays one more part behind those that are there.
func (p *Part) add(kid *Part, free bool) {
	p.Links = append(p.Links, Link{Part: kid, Base: p.size, Free: free})
	p.size += kid.size
}

// join finds what can stand behind each link, from the last one on, and so the edges of the whole.
func (p *Part) join() {
	behind := nothing()
	if p.again {
		for kind, own := range p.Links[len(p.Links)-1].edges() {
			behind[kind].first = own.first
		}
	}
	for i := len(p.Links) - 1; i >= 0; i-- {
		l := &p.Links[i]
		l.behind = behind[inner].first
		behind = l.ahead(behind)
	}
	p.edges = behind
}

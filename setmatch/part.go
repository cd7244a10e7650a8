package setmatch

import "runnel/api"

// The kinds of a place, as far as anchors can tell places apart: a place may be the beginning, the end, both or neither.
const (
	inner     = 0
	beginning = 1
	end       = 2
	kinds     = 4
)

// border is what of a part can be seen at a place of one kind.
type border struct {
	nothing bool      // it can match nothing there
	first   positions // those that can take its first byte, if it begins there
	last    positions // those that can take its last byte, if it ends there
}

// borders are a part's borders, by the kind of the place.
type borders [kinds]border

// part is a piece of a BRE with its repeats written out: positions, numbered from 0 on within it, and which can follow which.
// Each part has numbers and ways of its own, for which of them lead on within it is other than within what it stands in.
type part struct {
	group   int    // the number of the group that it is; 0, if it is none
	deep    bool   // it is a group, or has one in it
	links   []link // what stands in it, one behind the other: parts, or iterations of one part
	again   bool   // the last link may be gone through any number of times
	closed  bool   // pieces that it matches, one behind the other, it matches as one piece too
	borders borders
	takes   []api.Set   // the bytes that each position takes
	next    []positions // the positions that can take the byte behind that of each
}

// link is one of the parts that stand in a part.
type link struct {
	part *part
	base int  // the number of its first position within what it stands in
	free bool // it may be left out
}

// lay makes the parts of a tree without back-references.
func lay(r api.Re) *part {
	p := &part{}
	switch r.Kind {
	case api.KByte:
		p.takes, p.next = []api.Set{r.Set}, make([]positions, 1)
		for kind := range p.borders {
			p.borders[kind].first.add(0)
			p.borders[kind].last.add(0)
		}
		return p
	case api.KBol:
		p.borders = anchor(beginning)
		return p
	case api.KEol:
		p.borders = anchor(end)
		return p
	case api.KRepeat:
		p.addRepeat(r)
	default:
		p.group, p.deep = r.Group, r.Kind == api.KGroup
		for _, kid := range r.Kids {
			p.add(lay(kid), false)
		}
	}
	p.tie()
	return p
}

// addRepeat lays a repeat's iterations: as many as there may be or, if that has no bound, as there must be.
func (p *part) addRepeat(r api.Re) {
	written := r.Hi
	if r.Hi < 0 {
		written = max(r.Lo, 1)
		p.again = true
	}
	if written == 0 {
		return
	}
	kid := lay(r.Kids[0])
	// What takes no byte is the same once and often; repeats of it in repeats would never be written out.
	if len(kid.takes) == 0 {
		written = 1
	}
	for count := range written {
		p.add(kid, count >= r.Lo)
	}
}

// add lays one more part behind those that are there.
func (p *part) add(kid *part, free bool) {
	base := len(p.takes)
	p.links = append(p.links, link{part: kid, base: base, free: free})
	p.deep = p.deep || kid.deep
	p.takes = append(p.takes, kid.takes...)
	for _, next := range kid.next {
		p.next = append(p.next, next.up(base))
	}
}

// tie lets each link be followed by what can stand behind it. The place between two bytes is neither beginning nor end.
func (p *part) tie() {
	behind := optional(borders{})
	if p.again {
		behind = optional(p.links[len(p.links)-1].borders())
	}
	for i := len(p.links) - 1; i >= 0; i-- {
		own := p.links[i].borders()
		for number := range own[inner].last.all() {
			p.next[number] = p.next[number].or(behind[inner].first)
		}
		behind = join(own, behind)
	}
	p.borders = behind
	if len(p.links) == 1 {
		p.closed = p.again || p.links[0].part.closed
	}
}

// alone tells whether the one link of a part takes all that the part matches, if that is a byte or more.
func (p *part) alone() bool {
	return len(p.links) == 1 && (!p.again || p.links[0].part.closed)
}

// borders answers a link's borders by the numbers of what it stands in.
func (l link) borders() borders {
	own := l.part.borders
	for kind := range own {
		own[kind].first = own[kind].first.up(l.base)
		own[kind].last = own[kind].last.up(l.base)
	}
	if l.free {
		return optional(own)
	}
	return own
}

// onward answers the positions that can take the byte behind one that any of some took.
func (p *part) onward(took positions) positions {
	var all positions
	for number := range took.all() {
		all = all.or(p.next[number])
	}
	return all
}

// join answers the borders of two parts, one behind the other.
func join(a, b borders) borders {
	var both borders
	for kind := range both {
		x, y := a[kind], b[kind]
		both[kind] = border{nothing: x.nothing && y.nothing, first: x.first, last: y.last}
		if x.nothing {
			both[kind].first = x.first.or(y.first)
		}
		if y.nothing {
			both[kind].last = x.last.or(y.last)
		}
	}
	return both
}

// anchor answers the borders of what matches nothing, at places of a kind alone.
func anchor(wanted int) borders {
	var b borders
	for kind := range b {
		b[kind].nothing = kind&wanted != 0
	}
	return b
}

// optional answers the borders of what may be left out.
func optional(b borders) borders {
	for kind := range b {
		b[kind].nothing = true
	}
	return b
}

package tally

import (
	"runnel/api"
	"runnel/bset"
)

// point is a position that took the byte ahead of a place.
type point struct{ position, place int }

// Table tells of a BRE and a subject how many ways there are to go on, from a place or behind a position.
type Table struct {
	Whole   *Part
	subject string
	takes   []api.Set     // the bytes that each position takes
	next    [][]step      // the positions that can take the byte behind that of each
	last    [kinds][]int  // in how many ways the whole can end behind each position, by the kind of the place
	live    [][]bool      // of each place, whether a position can have taken the byte ahead of it, with a way on from there
	counted map[point]int // the ways behind the points that were asked for so far
}

// New lays a tree out over a subject. It can be asked about the places from one on.
func New(tree api.Re, subject string, from int) *Table {
	whole := lay(tree)
	t := &Table{
		Whole:   whole,
		subject: subject,
		takes:   make([]api.Set, whole.size),
		next:    make([][]step, whole.size),
		live:    make([][]bool, len(subject)+1),
		counted: map[point]int{},
	}
	for kind, edge := range whole.edges {
		t.last[kind] = make([]int, whole.size)
		for _, s := range edge.last {
			t.last[kind][s.position] = s.ways
		}
	}
	t.tie(whole, 0)
	for place := len(subject); place > from; place-- {
		t.live[place] = t.alive(place)
	}
	return t
}

// tie lets each position of a part be followed by those that can follow it, by the numbers of the whole.
func (t *Table) tie(p *Part, base int) {
	switch p.Kind {
	case api.KByte:
		t.takes[base] = p.set
	case api.KBack:
		t.takes[base] = p.set
		// A longer piece is one more byte for the same position.
		t.next[base] = []step{{base, 1}}
	}
	for _, l := range p.Links {
		t.tie(l.Part, base+l.Base)
		behind := up(l.behind, base)
		for _, s := range l.Part.edges[inner].last {
			position := base + l.Base + s.position
			t.next[position] = sum(t.next[position], times(behind, s.ways))
		}
	}
}

// times answers steps that each can be gone in so many times as many ways.
func times(steps []step, ways int) []step {
	more := make([]step, len(steps))
	for i, s := range steps {
		more[i] = step{s.position, capped(s.ways * ways)}
	}
	return more
}

// alive tells which positions can have taken the byte ahead of a place, with a way on from there. The places behind it are known by then.
func (t *Table) alive(place int) []bool {
	row := make([]bool, len(t.takes))
	ends := t.last[t.kind(place)]
	for position, set := range t.takes {
		row[position] = bset.Has(set, t.subject[place-1]) && (ends[position] > 0 || t.leadsBy(t.next[position], 0, place))
	}
	return row
}

// leadsBy tells whether one of some steps, with a base added to their positions, takes the byte behind a place, with a way on from there.
func (t *Table) leadsBy(steps []step, base, at int) bool {
	if at == len(t.subject) {
		return false
	}
	row := t.live[at+1]
	for _, s := range steps {
		if row[base+s.position] {
			return true
		}
	}
	return false
}

// Ways answers how many ways there are from a place, MaxWays + 1 for all that are more.
func (t *Table) Ways(at int) int {
	edge := t.Whole.edges[t.kind(at)]
	ways := 0
	if edge.nothing {
		ways = 1
	}
	return t.more(ways, edge.first, at)
}

// more adds to some ways those that go on from a place by one of some steps.
func (t *Table) more(ways int, steps []step, at int) int {
	if at == len(t.subject) {
		return ways
	}
	for _, s := range steps {
		if ways > api.MaxWays {
			break
		}
		if t.live[at+1][s.position] {
			ways = capped(ways + s.ways*t.behind(point{s.position, at + 1}))
		}
	}
	return ways
}

// behind answers how many ways there are behind a point.
func (t *Table) behind(p point) int {
	if ways, known := t.counted[p]; known {
		return ways
	}
	ways := t.more(t.last[t.kind(p.place)][p.position], t.next[p.position], p.place)
	t.counted[p] = ways
	return ways
}

// kind answers the kind of a place.
func (t *Table) kind(place int) int {
	kind := inner
	if place == 0 {
		kind |= beginning
	}
	if place == len(t.subject) {
		kind |= end
	}
	return kind
}

// Nothing tells whether a part can match nothing at a place.
func (t *Table) Nothing(p *Part, at int) bool {
	return p.edges[t.kind(at)].nothing
}

// Enters tells whether a part, the first position of which has the number base, can take a byte at a place, with a way on from there.
func (t *Table) Enters(p *Part, base, at int) bool {
	return t.leadsBy(p.edges[t.kind(at)].first, base, at)
}

// Leads tells whether there is a way on behind a position that took the byte ahead of a place.
func (t *Table) Leads(position, place int) bool {
	return t.live[place][position]
}

package tally

import "runnel/api"

// The kinds of a place, as far as anchors can tell places apart: a place may be the beginning, the end, both or neither.
const (
	inner     = 0
	beginning = 1
	end       = 2
	kinds     = 4
)

// step is a position, and in how many ways it is come to or left without a byte.
type step struct{ position, ways int }

// edge is what of a part can be seen at a place of one kind. A part never has more than one way to match nothing:
// its iterations are then those that there must be, and each of them matches nothing.
type edge struct {
	nothing bool   // it can match nothing there
	first   []step // those that can take its first byte, if it begins there; their positions rise
	last    []step // those that can take its last byte, if it ends there; their positions rise
}

// edges are a part's edges, by the kind of the place.
type edges [kinds]edge

// nothing answers the edges of a part that has nothing in it.
func nothing() edges {
	return edges{{nothing: true}, {nothing: true}, {nothing: true}, {nothing: true}}
}

// anchor answers the edges of what matches nothing, at places of a kind alone.
func anchor(wanted int) edges {
	var all edges
	for kind := range all {
		all[kind].nothing = kind&wanted != 0
	}
	return all
}

// edges answers a link's edges by the numbers of what it stands in.
func (l *Link) edges() edges {
	own := l.Part.edges
	for kind := range own {
		own[kind].first = up(own[kind].first, l.Base)
		own[kind].last = up(own[kind].last, l.Base)
	}
	return own
}

// ahead answers the edges of a link together with what stands behind it.
func (l *Link) ahead(behind edges) edges {
	both := l.edges()
	for kind := range both {
		own, rest := &both[kind], behind[kind]
		if !rest.nothing {
			own.last = nil
		}
		own.last = sum(own.last, rest.last)
		if l.Free {
			own.nothing = true
			continue
		}
		if own.nothing {
			own.first = sum(own.first, rest.first)
		}
		own.nothing = own.nothing && rest.nothing
	}
	return both
}

// up answers steps with every position greater by some.
func up(steps []step, by int) []step {
	moved := make([]step, len(steps))
	for i, s := range steps {
		moved[i] = step{s.position + by, s.ways}
	}
	return moved
}

// sum answers the steps of two lists together.
func sum(a, b []step) []step {
	both := make([]step, 0, len(a)+len(b))
	for len(a) > 0 && len(b) > 0 {
		switch {
		case a[0].position < b[0].position:
			both, a = append(both, a[0]), a[1:]
		case a[0].position > b[0].position:
			both, b = append(both, b[0]), b[1:]
		default:
			both = append(both, step{a[0].position, capped(a[0].ways + b[0].ways)})
			a, b = a[1:], b[1:]
		}
	}
	return append(append(both, a...), b...)
}

// capped holds a number of ways at the first that is too great: sums and products of such numbers are right up to there, and too great else.
func capped(ways int) int {
	return min(ways, api.MaxWays+1)
}

package pick

import (
	"math/rand"
	"strings"
	"testing"

	"runnel/api"
)

// A second picker: it keeps no ranges, but all that was asked, and finds a row's range out from the beginning each time.

type slowPicker struct {
	rows []api.Row
	asks [][]slowAsk // of each row, those without an error
	used string      // "-": none
}

type slowAsk struct {
	number int
	last   bool
	space  string
	a, b   bool // does A, does B meet it (if it was looked at)?
}

func newSlow(rows []api.Row) *slowPicker {
	return &slowPicker{rows: rows, asks: make([][]slowAsk, len(rows)), used: "-"}
}

// slowFinds tells whether one of the BREs of these tests has a match.
func slowFinds(re, space string) (bool, api.Errno) {
	switch {
	case len(space) > api.MaxSpace:
		return false, api.ErrSpace
	case re == tooMany && space == many:
		return false, api.ErrWays
	case re == tooMany:
		return true, api.OK
	}
	return strings.Contains(space, re), api.OK
}

func (p *slowPicker) meets(a api.Address, ask slowAsk) (bool, api.Errno) {
	if a.Kind == api.AMatch {
		if a.Re != "" {
			p.used = a.Re
		}
		if p.used == "-" {
			return false, api.ErrLast
		}
		return slowFinds(p.used, ask.space)
	}
	return a.Kind == api.ANone || a.Kind == api.ALine && ask.number == a.Line || a.Kind == api.ALast && ask.last, api.OK
}

// goesOn tells whether a row's range goes on behind its first asks: the last of them lay in a range, or began one, and did not end it.
func (p *slowPicker) goesOn(i, first int) bool {
	if first == 0 {
		return false
	}
	b, ask := p.rows[i].B, p.asks[i][first-1]
	inside := p.goesOn(i, first-1) && (b.Kind != api.ALine || ask.number <= b.Line)
	switch b.Kind {
	case api.ALine:
		return (inside || ask.a) && ask.number < b.Line
	case api.ALast:
		return (inside || ask.a) && !ask.last
	case api.AMatch:
		return inside && !ask.b || !inside && ask.a
	}
	return false
}

func (p *slowPicker) Ask(i, number int, last bool, space string) (bool, bool, api.Errno) {
	if i < 0 || i >= len(p.rows) {
		return false, false, api.ErrArg
	}
	row, ask := p.rows[i], slowAsk{number: number, last: last, space: space}
	inside := p.goesOn(i, len(p.asks[i]))
	if row.B.Kind == api.ALine && number > row.B.Line {
		inside = false
	}
	e := api.OK
	if !inside {
		ask.a, e = p.meets(row.A, ask)
	} else if row.B.Kind == api.AMatch {
		ask.b, e = p.meets(row.B, ask)
	}
	if e != api.OK {
		return false, false, e
	}
	p.asks[i] = append(p.asks[i], ask)
	return (inside || ask.a) != row.Not, !p.goesOn(i, len(p.asks[i])), api.OK
}

// tallied counts the answers that were held against each other, by their errors.
type tallied map[api.Errno]int

// hold asks both pickers the same, and holds their answers against each other.
func (count tallied) hold(t *testing.T, p *Picker, slow *slowPicker, i, number int, last bool, space string) {
	t.Helper()
	in, off, e := p.Ask(i, number, last, space)
	wantIn, wantOff, want := slow.Ask(i, number, last, space)
	if in != wantIn || off != wantOff || e != want {
		t.Fatalf("of the rows %v: Ask(%d, %d, %v, %.40q) = %v, %v, %d, want %v, %v, %d", slow.rows, i, number, last, space, in, off, e, wantIn, wantOff, want)
	}
	if m := p.Last(); (m == nil) != (slow.used == "-") || m != nil && m.Text() != slow.used {
		t.Fatalf("of the rows %v: behind Ask(%d, %d, %v, %.40q) the BRE used last is %q, want %q", slow.rows, i, number, last, space, m.Text(), slow.used)
	}
	count[e]++
}

// allAddresses answers addresses of each kind.
func allAddresses() []api.Address {
	return []api.Address{none, line(1), line(2), line(3), end, match("a"), match("b"), match(""), match(tooMany)}
}

// allRows answers the rows of these addresses.
func allRows() []api.Row {
	var rows []api.Row
	for _, a := range allAddresses() {
		for _, b := range allAddresses() {
			if a == none && b != none {
				continue
			}
			rows = append(rows, api.Row{A: a, B: b}, api.Row{A: a, B: b, Not: true})
		}
	}
	return rows
}

// Each row, asked of all short lists of lines, in any order.
func TestAllRowsAndShortLists(t *testing.T) {
	type ask struct {
		number int
		last   bool
		space  string
	}
	var asks []ask
	for number := 1; number <= 4; number++ {
		asks = append(asks, ask{number, false, "a"}, ask{number, false, "b"}, ask{number, true, "c"})
	}
	asks = append(asks, ask{2, false, many}, ask{4, false, strings.Repeat("b", api.MaxSpace+1)})
	count := tallied{}
	for _, row := range allRows() {
		rows := []api.Row{row}
		for first := range asks {
			for second := range asks {
				for third := range asks {
					p, slow := picker(t, rows...), newSlow(rows)
					for _, k := range []int{first, second, third} {
						count.hold(t, p, slow, 0, asks[k].number, asks[k].last, asks[k].space)
					}
				}
			}
		}
	}
	for _, e := range []api.Errno{api.OK, api.ErrLast, api.ErrSpace, api.ErrWays} {
		if count[e] < 1000 {
			t.Errorf("the error %d was met %d times only", e, count[e])
		}
	}
}

// A few rows beside one another, asked by chance, with BREs used between.
func TestRandomRows(t *testing.T) {
	random := rand.New(rand.NewSource(22))
	choices, count := allRows(), tallied{}
	spaces := []string{"", "a", "b", "ab", "c", many, strings.Repeat("b", api.MaxSpace+1)}
	for range 4000 {
		var rows []api.Row
		for range 1 + random.Intn(4) {
			rows = append(rows, choices[random.Intn(len(choices))])
		}
		p, slow := picker(t, rows...), newSlow(rows)
		number := 0
		for range 12 {
			number += random.Intn(3)
			if random.Intn(6) == 0 {
				number = random.Intn(4)
			}
			switch used := spaces[1+random.Intn(3)]; random.Intn(12) {
			case 0:
				p.Use(read(t, used))
				slow.used = used
			case 1:
				p.Use(nil)
			}
			count.hold(t, p, slow, random.Intn(len(rows)+2)-1, number, random.Intn(4) == 0, spaces[random.Intn(len(spaces))])
		}
	}
	for _, e := range []api.Errno{api.OK, api.ErrArg, api.ErrLast, api.ErrSpace, api.ErrWays} {
		if count[e] < 200 {
			t.Errorf("the error %d was met %d times only", e, count[e])
		}
	}
}

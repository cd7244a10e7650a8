package measure

import (
	"math/bits"
	"math/rand"
	"strings"
	"testing"

	"runnel/api"
	"runnel/bre"
	"runnel/bset"
)

// checkMeasures holds what is known of each BRE against what it should be.
func checkMeasures(t *testing.T, measures map[string]api.Measure) {
	t.Helper()
	for text, want := range measures {
		if m, f := Of(text); m != want || f != (api.Fault{}) {
			t.Errorf("Of(%q) = %+v, %v, want %+v", text, m, f, want)
		}
	}
}

// checkField holds one field by itself.
func checkField(t *testing.T, field func(api.Measure) int, numbers map[string]int) {
	t.Helper()
	for text, want := range numbers {
		if m, f := Of(text); field(m) != want || f != (api.Fault{}) {
			t.Errorf("Of(%q) = %+v, %v, want %d", text, m, f, want)
		}
	}
}

// checkRefused holds the fault of each text against an error and its place, and against bre.Parse; the measure beside it is zero.
func checkRefused(t *testing.T, e api.Errno, places map[string]int) {
	t.Helper()
	for text, at := range places {
		if m, f := Of(text); f != (api.Fault{E: e, At: at}) || m != (api.Measure{}) {
			t.Errorf("Of(%q) = %+v, %v, want error %d at %d", text, m, f, e, at)
		}
		if _, f := bre.Parse(text); f != (api.Fault{E: e, At: at}) {
			t.Errorf("bre.Parse(%q) has the fault %v, want error %d at %d", text, f, e, at)
		}
	}
}

func TestTheChaptersExamples(t *testing.T) {
	checkMeasures(t, map[string]api.Measure{
		`a\{2,3\}b*`:    {Positions: 4, Least: 2, Most: -1},
		`\(^ab\)\{2\}$`: {Positions: 4, Groups: 1, Least: 4, Most: 4, Bol: true, Eol: true},
		`\(\)*`:         {Groups: 1},
		`\(a\)\1`:       {Positions: 2, Groups: 1, Least: 1, Most: -1, Back: true},
		``:              {},
	})
}

// P6.1.

func TestEachKindOfAPart(t *testing.T) {
	checkMeasures(t, map[string]api.Measure{
		`a`:              {Positions: 1, Least: 1, Most: 1},
		`.`:              {Positions: 1, Least: 1, Most: 1},
		"[^\x00-\xff]":   {Positions: 1, Least: 1, Most: 1},
		`^`:              {Bol: true},
		`$`:              {Eol: true},
		`\(\)`:           {Groups: 1},
		`\(a[bc]\)*\n\1`: {Positions: 4, Groups: 1, Least: 1, Most: -1, Back: true},
	})
}

// Field by field.

func TestPositions(t *testing.T) {
	checkField(t, func(m api.Measure) int { return m.Positions }, map[string]int{
		``: 0, `a`: 1, `abc`: 3, `a.[bc]\n\*`: 5, `^a$`: 1, `^$`: 0, `*a`: 2, `a^$b`: 4, `\(ab\)c`: 3, `\(\(a\)\(b\)\)`: 2, `\(a\)\1`: 2, `\(a\)\1\1`: 3,
		`a*`: 1, `a**`: 1, `a\{0\}`: 0, `a\{0,\}`: 1, `a\{1,\}`: 1, `a\{3,\}`: 3, `a\{3\}`: 3, `a\{2,5\}`: 5, `a\{0,5\}`: 5, `a\{0,1\}`: 1,
		`\(ab\)*`: 2, `\(ab\)\{3,\}`: 6, `\(ab\)\{1,4\}`: 8, `\(a\{2\}b\{3\}\)\{4\}`: 20, `a\{3\}\{4,\}`: 12, `a\{3,\}\{4\}`: 12, `a\{3,\}*`: 3, `a\{0\}\{5\}`: 0, `a\{5\}\{0\}`: 0, `a*\{5\}`: 5,
		`\(a\)\1\{7\}`: 8, `\(a\)\1*`: 2, `\(^$\)\{9\}`: 0, `\(\)\{255\}`: 0, `\(a\{0\}b\)\{3\}`: 3, `xa\{0\}y`: 2,
	})
}

func TestGroups(t *testing.T) {
	checkField(t, func(m api.Measure) int { return m.Groups }, map[string]int{
		``: 0, `abc`: 0, `\(a\)`: 1, `\(\)`: 1, `\(a\)\(b\)`: 2, `\(\(a\)\)`: 2, `\(a\(b\)\(c\(\)\)\)\(d\)`: 5, `\(a\)\1\1`: 1,
		`\(a\)*`: 1, `\(a\)\{9\}`: 1, `\(a\)\{0\}`: 1, `\(\(a\)\{3\}\)\{4\}`: 2, `\(\(a\)\{0\}\)\{0\}\(b\)`: 3,
		`(a)`: 0, `[\(]`: 0, `\\(`: 0, strings.Repeat(`\(a\)`, 9): 9, strings.Repeat(`\(`, 9) + strings.Repeat(`\)`, 9): 9,
	})
}

func TestLeast(t *testing.T) {
	checkField(t, func(m api.Measure) int { return m.Least }, map[string]int{
		``: 0, `a`: 1, `abc`: 3, `^a$`: 1, `^$`: 0, `a.[bc]`: 3, `\(ab\)c`: 3, `\(\)`: 0,
		`a*`: 0, `a*b`: 1, `a\{0\}`: 0, `a\{0,4\}`: 0, `a\{1,\}`: 1, `a\{3,\}`: 3, `a\{3\}`: 3, `a\{2,5\}`: 2,
		`\(ab\)\{3,\}c`: 7, `\(a\{2,4\}b\)\{3,5\}`: 9, `a\{2,\}\{3,\}`: 6, `a*\{5\}`: 0, `a\{5\}*`: 0, `a\{5\}\{0\}`: 0, `a\{0\}\{5\}`: 0, `\(a*b\)\{3\}`: 3, `\(\)\{7\}`: 0,
		`\(a\)\1`: 1, `\(a\)\1\{5\}`: 1, `\(a\)\1b`: 2, `\(abc\)\(\1\)\{2\}`: 3, `\(\(a\)\2b\)\{3\}`: 6, `\(\)\1`: 0,
	})
}

func TestMost(t *testing.T) {
	checkField(t, func(m api.Measure) int { return m.Most }, map[string]int{
		``: 0, `a`: 1, `abc`: 3, `^a$`: 1, `^$`: 0, `a.[bc]`: 3, `\(ab\)c`: 3, `\(\)`: 0,
		`a*`: -1, `a\{0\}`: 0, `a\{0,\}`: -1, `a\{1,\}`: -1, `a\{3,\}`: -1, `a\{3\}`: 3, `a\{2,5\}`: 5, `a\{0,5\}`: 5,
		`\(ab\)\{3\}c`: 7, `\(a\{2,4\}b\)\{3,5\}`: 25, `a\{2,3\}\{4,5\}`: 15, `a*\{5\}`: -1, `a\{5\}*`: -1, `a\{3,\}\{2,4\}`: -1, `\(a*\)\{0,2\}`: -1, `a**`: -1,
		`\(a\)\1`: -1, `\(\)\1`: -1, `\(a\)\1\{3\}`: -1, `\(a\)\1*`: -1, `\(a\)\(\1\)`: -1, `\(a\)\(\1\)\{3\}`: -1,
	})
}

// Repeats of nothing, and of no times, match nothing: whatever is beside the 0, a 0 it stays.
func TestRepeatsOfNothingAndOfNoTimes(t *testing.T) {
	checkField(t, func(m api.Measure) int { return m.Most }, map[string]int{
		`\(\)*`: 0, `\(\)\{3,\}`: 0, `\(\)\{3\}`: 0, `\(\)**`: 0, `\(^$\)*`: 0, `\(^\)\{2,\}`: 0, `\($\)*`: 0, `\(\(\)*\)*`: 0, `a\{0\}*`: 0, `a\{0\}\{5,\}`: 0, `\(a\{0\}\)*`: 0,
		`a*\{0\}`: 0, `a\{3,\}\{0\}`: 0, `\(a*\)\{0\}`: 0, `\(a\)\1\{0\}`: 1, `\(a\)\(\1\)\{0\}`: 1, `\(\(a\)*\2\)\{0\}`: 0, `a*\{0\}*`: 0, `a*\{0\}\{2,\}b`: 1, `\(a\)\1\{0\}*`: 1, `\(a\)\1*\{0\}`: 1,
	})
	checkMeasures(t, map[string]api.Measure{
		`\(^a$\)\{0\}`:       {Groups: 1, Bol: true, Eol: true},
		`\(\(a\)\2\)\{0\}`:   {Groups: 2, Back: true},
		`\(\(a\)\2\)\{0\}b`:  {Positions: 1, Groups: 2, Least: 1, Most: 1, Back: true},
		`\(^$\)*`:            {Groups: 1, Bol: true, Eol: true},
		`\(\)\{255\}\{255\}`: {Groups: 1},
	})
}

// No bound with anything is no bound, whichever stands first, and though a 0 or several of them stand between.
func TestNoBoundBehindAndAheadOfOthers(t *testing.T) {
	checkField(t, func(m api.Measure) int { return m.Most }, map[string]int{
		`a*\(\)`: -1, `\(\)a*`: -1, `^a*`: -1, `a*$`: -1, `a*b`: -1, `ba*`: -1, `a*b*`: -1, `a*b*c`: -1, `ba*c`: -1, `a\{0\}b*`: -1, `b*a\{0\}`: -1, `\(a*\)b`: -1, `b\(a*\)`: -1,
		`\(a\)\1\1`: -1, `\(a\)\1b`: -1, `\(a\)\1b*`: -1, `\(a\)b*\1`: -1, `\(a\)\1\(\)`: -1, `\(\)\1\(\)`: -1, `a*b\{0\}c`: -1, `\(a*b\)\{2\}`: -1, `b*\(\)*`: -1, `\(\)*b*`: -1, `a\{255\}b*`: -1,
	})
}

func TestBackReferencesWithinRepeatsAndGroups(t *testing.T) {
	checkMeasures(t, map[string]api.Measure{
		`\(a\)\1*`:            {Positions: 2, Groups: 1, Least: 1, Most: -1, Back: true},
		`\(a\)\1\{3\}`:        {Positions: 4, Groups: 1, Least: 1, Most: -1, Back: true},
		`\(a\)\1\{0\}`:        {Positions: 1, Groups: 1, Least: 1, Most: 1, Back: true},
		`\(a\)\(\1\)`:         {Positions: 2, Groups: 2, Least: 1, Most: -1, Back: true},
		`\(a\)\(b\1\)\{2\}`:   {Positions: 5, Groups: 2, Least: 3, Most: -1, Back: true},
		`\(\(a\)\2\)\{2,4\}`:  {Positions: 8, Groups: 2, Least: 2, Most: -1, Back: true},
		`\(a*\)*\1*b`:         {Positions: 3, Groups: 1, Least: 1, Most: -1, Back: true},
		`\(\(\(a\)\3\)\2\)\1`: {Positions: 4, Groups: 3, Least: 1, Most: -1, Back: true},
	})
}

func number(b bool) int {
	if b {
		return 1
	}
	return 0
}

func TestBack(t *testing.T) {
	checkField(t, func(m api.Measure) int { return number(m.Back) }, map[string]int{
		``: 0, `a1`: 0, `\(a\)1`: 0, `\(a\)`: 0, `\(a\)\\1`: 0, `[\1]`: 0, `^$`: 0, `a*`: 0,
		`\(a\)\1`: 1, `\(a\)\1b`: 1, `\(a\)b\1`: 1, `\(a\)\1*`: 1, `\(a\)\(\1\)c`: 1, `\(\(a\)\2\)*`: 1, `\(a\)\1\{0\}`: 1, `\(\(a\)\2\)\{0\}b`: 1,
	})
}

func TestBol(t *testing.T) {
	checkField(t, func(m api.Measure) int { return number(m.Bol) }, map[string]int{
		``: 0, `a`: 0, `a^`: 0, `\^`: 0, `[^a]`: 0, `$`: 0, `\(a\)^\1`: 0,
		`^`: 1, `^a`: 1, `^^`: 1, `\(^a\)`: 1, `a\(^b\)`: 1, `a\(^b\)c`: 1, `\(^\)*`: 1, `\(^a\)\{0\}`: 1, `\(\(^\)b\)*c`: 1,
	})
}

func TestEol(t *testing.T) {
	checkField(t, func(m api.Measure) int { return number(m.Eol) }, map[string]int{
		``: 0, `a`: 0, `$a`: 0, `\$`: 0, `[$]`: 0, `^`: 0, `\(a\)$\1`: 0, `$*`: 0,
		`$`: 1, `a$`: 1, `$$`: 1, `\(a$\)`: 1, `\(b$\)a`: 1, `\($\)*`: 1, `\(a$\)\{0\}`: 1, `a\(b\($\)\)*c`: 1,
	})
}

func TestTextsOfMaxRePositions(t *testing.T) {
	long := strings.Repeat("a", 256)
	checkMeasures(t, map[string]api.Measure{
		long:                                {Positions: 256, Least: 256, Most: 256},
		"^" + long + "$":                    {Positions: 256, Least: 256, Most: 256, Bol: true, Eol: true},
		long + "*":                          {Positions: 256, Least: 255, Most: -1},
		`\(` + long + `\)*`:                 {Positions: 256, Groups: 1, Most: -1},
		`\(` + long + `\)\{0\}`:             {Groups: 1},
		`\(` + long + `\)\{0\}` + long[16:]: {Positions: 240, Groups: 1, Least: 240, Most: 240},
		strings.Repeat(".", 256):            {Positions: 256, Least: 256, Most: 256},
		`a\{255\}b`:                         {Positions: 256, Least: 256, Most: 256},
		`a\{0,255\}b`:                       {Positions: 256, Least: 1, Most: 256},
		`a\{255,\}b`:                        {Positions: 256, Least: 256, Most: -1},
		`a\{16\}\{16\}`:                     {Positions: 256, Least: 256, Most: 256},
		`a\{1,16\}\{2,16\}`:                 {Positions: 256, Least: 2, Most: 256},
		`\(\(ab\)\{2\}\)\{64\}`:             {Positions: 256, Groups: 2, Least: 256, Most: 256},
		`\(a\)\1\{255\}`:                    {Positions: 256, Groups: 1, Least: 1, Most: -1, Back: true},
		`\(a*\)\{255\}b`:                    {Positions: 256, Groups: 1, Least: 1, Most: -1},
		`\(\)\{255\}\{255\}` + long:         {Positions: 256, Groups: 1, Least: 256, Most: 256},
	})
	checkRefused(t, api.ErrTooBig, map[string]int{long + "b": 256, `a\{255\}bc`: 9, `a\{16\}\{17\}`: 7})
}

// The errors: each fault of bre.Parse, and a zero measure beside it.

func TestFaults(t *testing.T) {
	checkRefused(t, api.ErrLong, map[string]int{strings.Repeat("^", 513): 0, "[" + strings.Repeat("b", 512): 0, strings.Repeat(`\`, 1000): 0})
	checkRefused(t, api.ErrEnd, map[string]int{`a\`: 1, `\(b*\`: 4, `[`: 0, `ab[]`: 2, `\([^`: 2, `a[[=a`: 1})
	checkRefused(t, api.ErrClass, map[string]int{`x[[:Digit:]]`: 1, `[[=ab=]]`: 0, `\(a[[.ab.]]`: 3})
	checkRefused(t, api.ErrRange, map[string]int{`x[z-a]`: 1, `[[=a=]-z]`: 0, `\([a-[:digit:]]\)`: 2})
	checkRefused(t, api.ErrRepeat, map[string]int{
		`\{1\}a`: 0, `^\{1\}`: 1, `a\(\{1\}\)`: 3, `a\(^\{1\}\)`: 4, `ab\{1`: 2, `b\{,\}`: 1, `b\{a\}`: 1, `b*\{9,8\}`: 2, `\(b\)\{256,\}`: 5, `b\{1,999\}`: 1, `b\}`: 1, `b*\}`: 2,
	})
	checkRefused(t, api.ErrFull, map[string]int{strings.Repeat(`\(b\)`, 10): 45, strings.Repeat(`\(`, 9) + `b\(`: 19})
	checkRefused(t, api.ErrParen, map[string]int{`b\)c`: 1, `\(b\)*\)`: 6, `\(b`: 0, `b\(\(c\)`: 1, `b\(c\(`: 4})
	checkRefused(t, api.ErrBack, map[string]int{`b\1`: 1, `\(b\)\3`: 5, `\(\(b\)\1\)`: 7})
	checkRefused(t, api.ErrEscape, map[string]int{`b\d`: 1, `\0`: 0, `\(b\Z`: 3})
	long := strings.Repeat("b", 256)
	checkRefused(t, api.ErrTooBig, map[string]int{
		`\(` + long + ".": 258, long + "[ab]": 256, `\(b\{255\}c\)\1`: 13, long + `\{3,\}`: 256, `b\{255\}c\(*`: 11, long + `b\{0\}`: 256,
	})
	// The first from the front is the answer.
	checkRefused(t, api.ErrEscape, map[string]int{`b\d\1`: 1, `\d[`: 0, `\(\d`: 2})
	checkRefused(t, api.ErrRepeat, map[string]int{`\(\}\w`: 2, `b\{2\`: 1})
}

// spell writes a tree out: a letter for each byte (b) and back-reference (k), each repeat as often as times tells.
// A * behind letters says that there may be ever more of them.
func spell(r api.Re, times func(lo, hi int) int) string {
	out := ""
	for _, kid := range r.Kids {
		out += spell(kid, times)
	}
	switch r.Kind {
	case api.KByte:
		return "b"
	case api.KBack:
		return "k"
	case api.KRepeat:
		if count := times(r.Lo, r.Hi); count >= 0 {
			return strings.Repeat(out, count)
		}
		if out != "" {
			return out + "*"
		}
	}
	return out
}

// has counts the parts of a kind.
func has(r api.Re, kind int) int {
	count := number(r.Kind == kind)
	for _, kid := range r.Kids {
		count += has(kid, kind)
	}
	return count
}

// slowMeasure measures a tree by writing it out.
func slowMeasure(r api.Re) api.Measure {
	positions := spell(r, func(lo, hi int) int {
		if hi < 0 {
			return max(lo, 1)
		}
		return hi
	})
	least := spell(r, func(lo, hi int) int { return lo })
	most := spell(r, func(lo, hi int) int { return hi })
	m := api.Measure{
		Positions: len(positions), Groups: has(r, api.KGroup), Least: strings.Count(least, "b"), Most: len(most),
		Back: has(r, api.KBack) > 0, Bol: has(r, api.KBol) > 0, Eol: has(r, api.KEol) > 0,
	}
	if strings.ContainsAny(most, "k*") {
		m.Most = -1
	}
	return m
}

// state is where a derivation stands, and what its groups have matched last.
type state struct {
	at    int
	spans [api.MaxGroups + 1]api.Span
}

// derive answers the states in which the derivations of a tree end that begin in a state.
func derive(r api.Re, subject string, from state) map[state]int {
	ends := map[state]int{}
	switch r.Kind {
	case api.KCat:
		ends[from] = 1
		for _, kid := range r.Kids {
			further := map[state]int{}
			for s := range ends {
				for end := range derive(kid, subject, s) {
					further[end] = 1
				}
			}
			ends = further
		}
	case api.KByte:
		if from.at < len(subject) && bset.Has(r.Set, subject[from.at]) {
			from.at++
			ends[from] = 1
		}
	case api.KBol:
		if from.at == 0 {
			ends[from] = 1
		}
	case api.KEol:
		if from.at == len(subject) {
			ends[from] = 1
		}
	case api.KGroup:
		for end := range derive(r.Kids[0], subject, from) {
			end.spans[r.Group] = api.Span{From: from.at, To: end.at}
			ends[end] = 1
		}
	case api.KBack:
		if span := from.spans[r.Group]; span.From >= 0 {
			if piece := subject[span.From:span.To]; strings.HasPrefix(subject[from.at:], piece) {
				from.at += len(piece)
				ends[from] = 1
			}
		}
	case api.KRepeat:
		deriveRepeat(r, subject, from, ends)
	}
	return ends
}

// deriveRepeat lays the states in which the derivations of a repeat end into ends.
func deriveRepeat(r api.Re, subject string, from state, ends map[state]int) {
	now := map[state]int{from: 1}
	for count := 0; len(now) > 0; count++ {
		further := map[state]int{}
		for s := range now {
			if count >= r.Lo {
				ends[s] = 1
			}
			if r.Hi >= 0 && count == r.Hi {
				continue
			}
			for end := range derive(r.Kids[0], subject, s) {
				if count < r.Lo || end.at > s.at {
					further[end] = 1
				}
			}
		}
		now = further
	}
}

// lengths answers the least and the greatest length of a derivation from any place, and whether there is one.
func lengths(tree api.Re, subject string) (int, int, bool) {
	least, most, found := 0, 0, false
	for at := range len(subject) + 1 {
		from := state{at: at}
		for k := range from.spans {
			from.spans[k] = api.Span{From: -1, To: -1}
		}
		for end := range derive(tree, subject, from) {
			length := end.at - at
			if !found {
				least, most, found = length, length, true
			}
			least, most = min(least, length), max(most, length)
		}
	}
	return least, most, found
}

// checkBounds holds P6.2 for a subject.
func checkBounds(t *testing.T, text, subject string, tree api.Re, m api.Measure) {
	t.Helper()
	least, most, found := lengths(tree, subject)
	if found && (least < m.Least || m.Most >= 0 && most > m.Most) {
		t.Fatalf("%q matches %d to %d bytes of %q, but has the measure %+v", text, least, most, subject, m)
	}
}

// checkNumbers holds a measure against the tree written out, and its numbers against one another.
func checkNumbers(t *testing.T, text string, tree api.Re) api.Measure {
	t.Helper()
	m, f := Of(text)
	if want := slowMeasure(tree); m != want || f != (api.Fault{}) {
		t.Fatalf("Of(%q) = %+v, %v, want %+v", text, m, f, want)
	}
	if again, f := Of(text); again != m || f != (api.Fault{}) {
		t.Fatalf("Of(%q) = %+v, then %+v, %v", text, m, again, f)
	}
	if m.Most < -1 || m.Least < 0 || m.Most >= 0 && m.Most < m.Least || !m.Back && (m.Least > m.Positions || m.Most > m.Positions) {
		t.Fatalf("Of(%q) = %+v: the numbers don't go together", text, m)
	}
	return m
}

// Every text of up to five telling pieces, or its fault.
func TestAllShortTexts(t *testing.T) {
	pieces := []string{"a", "*", "^", "$", `\(`, `\)`, `\{0\}`, `\{2,3\}`, `\{2,\}`, `\1`, "[", `\`}
	good := 0
	var grow func(text string, more int)
	grow = func(text string, more int) {
		if tree, fault := bre.Parse(text); fault.E == api.OK {
			checkNumbers(t, text, tree)
			good++
		} else if m, f := Of(text); m != (api.Measure{}) || f != fault {
			t.Fatalf("Of(%q) = %+v, %v, want %v", text, m, f, fault)
		}
		if more == 0 {
			return
		}
		for _, piece := range pieces {
			grow(text+piece, more-1)
		}
	}
	grow("", 5)
	grow(`\(a\)`, 4)
	grow(`\(\(a\)\2`, 4)
	if good < 20000 {
		t.Errorf("just %d texts were BREs", good)
	}
}

// P6.2: derivations on short subjects, from every place.
func TestBoundsOfDerivations(t *testing.T) {
	pieces := []string{"a", "a", "b", ".", "[ab]", "*", "^", "$", `\(`, `\(`, `\)`, `\)`, `\{0\}`, `\{0,1\}`, `\{2\}`, `\{1,2\}`, `\{1,\}`, `\1`, `\2`, `\(a*\)`}
	chance := rand.New(rand.NewSource(7))
	good, backs := 0, 0
	for range 60000 {
		text := ""
		for range 1 + chance.Intn(9) {
			text += pieces[chance.Intn(len(pieces))]
		}
		tree, fault := bre.Parse(text)
		if fault.E != api.OK {
			continue
		}
		m := checkNumbers(t, text, tree)
		good++
		backs += number(m.Back)
		for _, subject := range []string{"", "a", "ab", "aa", "aab", "abab", "aaaa"} {
			checkBounds(t, text, subject, tree, m)
		}
	}
	if good < 5000 || backs < 300 {
		t.Errorf("just %d texts were BREs, %d of them with back-references", good, backs)
	}
}

// reached answers the lengths that derivations may have on a subject that every byte of the BRE takes: the bit k is 1, if k is one.
// It begins with those of what stands ahead. Lengths from 64 on are left out.
func reached(r api.Re, ahead uint64) uint64 {
	switch r.Kind {
	case api.KByte:
		return ahead << 1
	case api.KRepeat:
		for range r.Lo {
			ahead = reached(r.Kids[0], ahead)
		}
		for count := r.Lo; r.Hi < 0 || count < r.Hi; count++ {
			more := ahead | reached(r.Kids[0], ahead)
			if more == ahead {
				break
			}
			ahead = more
		}
		return ahead
	}
	for _, kid := range r.Kids {
		ahead = reached(kid, ahead)
	}
	return ahead
}

// Where nothing but lengths matters, without anchors and back-references, the bounds are met.
func TestBoundsAreMet(t *testing.T) {
	pieces := []string{"a", ".", "*", `\(`, `\)`, `\(\)`, `\(a*\)`, `\{0\}`, `\{0,1\}`, `\{2\}`, `\{1,3\}`, `\{2,\}`}
	chance := rand.New(rand.NewSource(8))
	met := 0
	for range 60000 {
		text := "a"
		for range chance.Intn(10) {
			text += pieces[chance.Intn(len(pieces))]
		}
		tree, fault := bre.Parse(text)
		m, _ := Of(text)
		// With one iteration more than is written out all lengths are still below 64.
		if fault.E != api.OK || m.Positions > 31 {
			continue
		}
		met++
		all := reached(tree, 1)
		least, most := bits.TrailingZeros64(all), 63-bits.LeadingZeros64(all)
		if least != m.Least || m.Most >= 0 && most != m.Most || m.Most < 0 && most <= m.Positions {
			t.Fatalf("%q matches %d to %d bytes, but has the measure %+v", text, least, most, m)
		}
	}
	if met < 5000 {
		t.Errorf("just %d texts were held", met)
	}
}

// P1: any bytes are answered, with bre.Parse's fault or none.
func TestAnswersAtAllTexts(t *testing.T) {
	chance := rand.New(rand.NewSource(9))
	for range 50000 {
		text := ""
		for range chance.Intn(40) {
			if chance.Intn(3) == 0 {
				text += string([]byte{byte(chance.Intn(256))})
			} else {
				text += []string{`\`, "(", ")", "{", "}", "[", "]", "*", "^", "$", ",", "2", "a", `\(`, `\)`, `\{2\}`}[chance.Intn(16)]
			}
		}
		tree, fault := bre.Parse(text)
		if fault.E == api.OK {
			checkNumbers(t, text, tree)
		} else {
			checkRefused(t, fault.E, map[string]int{text: fault.At})
		}
	}
}

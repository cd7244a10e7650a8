package matcher

import (
	"math/rand"
	"slices"
	"strings"
	"testing"
	"unsafe"

	"runnel/api"
	"runnel/backmatch"
	"runnel/bre"
	"runnel/setmatch"
)

// read answers the matcher of a BRE that has no fault.
func read(t *testing.T, text string) *Matcher {
	t.Helper()
	m, fault := New(text)
	if m == nil || fault != (api.Fault{}) {
		t.Fatalf("New(%q) = %v, %v", text, m, fault)
	}
	return m
}

// span answers a piece.
func span(from, to int) api.Span {
	return api.Span{From: from, To: to}
}

// check holds one Match against spans; without spans there must be no match.
func check(t *testing.T, m *Matcher, subject string, from int, want ...api.Span) {
	t.Helper()
	spans, found, e := m.Match(subject, from)
	if !slices.Equal(spans, want) || found != (len(want) > 0) || e != api.OK {
		t.Fatalf("%q: Match(%q, %d) = %v, %v, %d, want %v", m.Text(), subject, from, spans, found, e, want)
	}
}

// checkRefused holds one Match against an error, with nothing beside it and no step more.
func checkRefused(t *testing.T, want api.Errno, m *Matcher, subject string, from int) {
	t.Helper()
	ahead := m.Steps()
	if spans, found, e := m.Match(subject, from); e != want || found || len(spans) != 0 {
		t.Fatalf("%q: Match(%d bytes, %d) = %v, %v, %d, want %d", m.Text(), len(subject), from, spans, found, e, want)
	}
	if m.Steps() != ahead {
		t.Fatalf("%q: Match(%d bytes, %d) was refused, and the steps went from %d to %d", m.Text(), len(subject), from, ahead, m.Steps())
	}
}

func TestTheChaptersExamples(t *testing.T) {
	if m, fault := New(`\(`); m != nil || fault != (api.Fault{E: api.ErrParen, At: 0}) {
		t.Errorf("New = %v, %v", m, fault)
	}
	m := read(t, `\(a\)*`)
	if m.Groups() != 1 {
		t.Errorf("Groups = %d", m.Groups())
	}
	check(t, m, "xaa", 0, span(0, 0), span(-1, -1))
	check(t, m, "xaa", 1, span(1, 3), span(2, 3))
	checkRefused(t, api.ErrArg, m, "a", 2)
	checkNil(t, nil)
}

func checkNil(t *testing.T, none *Matcher) {
	t.Helper()
	for _, from := range []int{0, -1, 2, 1 << 62} {
		for _, subject := range []string{"", "a", strings.Repeat("a", 1025)} {
			if spans, found, e := none.Match(subject, from); len(spans) != 0 || found || e != api.ErrState {
				t.Errorf("Match of nil = %v, %v, %d", spans, found, e)
			}
		}
	}
	if none.Text() != "" || none.Groups() != 0 || none.Steps() != 0 {
		t.Errorf("nil: Text %q, Groups %d, Steps %d", none.Text(), none.Groups(), none.Steps())
	}
}

// What New answers beside a fault is a nil Matcher.
func TestWhatStandsBesideAFault(t *testing.T) {
	m, _ := New(`a\)`)
	checkNil(t, m)
}

// faulty has texts with each error of bre.Parse, and its place.
func faulty() map[string]api.Fault {
	return map[string]api.Fault{
		strings.Repeat("a", 513):        {E: api.ErrLong, At: 0},
		`\(` + strings.Repeat("^", 511): {E: api.ErrLong, At: 0},
		`a*\`:                           {E: api.ErrEnd, At: 2},
		`ab[c`:                          {E: api.ErrEnd, At: 2},
		`a[[:Digit:]]*`:                 {E: api.ErrClass, At: 1},
		`a*[z-a]*`:                      {E: api.ErrRange, At: 2},
		`\{1\}`:                         {E: api.ErrRepeat, At: 0},
		`ab\{2,1\}`:                     {E: api.ErrRepeat, At: 2},
		`a\{256\}`:                      {E: api.ErrRepeat, At: 1},
		strings.Repeat(`\(\)`, 10):      {E: api.ErrFull, At: 36},
		`a\)`:                           {E: api.ErrParen, At: 1},
		`a\(b`:                          {E: api.ErrParen, At: 1},
		`\1`:                            {E: api.ErrBack, At: 0},
		`\(a\1\)`:                       {E: api.ErrBack, At: 3},
		`ab\w`:                          {E: api.ErrEscape, At: 2},
		strings.Repeat("a", 257):        {E: api.ErrTooBig, At: 256},
	}
}

// P11.1: the faults are bre.Parse's.
func TestFaults(t *testing.T) {
	for text, want := range faulty() {
		checkFault(t, text, want)
	}
}

// checkFault holds New against a fault, with nil beside it; or against none, with a matcher.
func checkFault(t *testing.T, text string, want api.Fault) {
	t.Helper()
	m, fault := New(text)
	if (m == nil) != (want.E != api.OK) || fault != want {
		t.Fatalf("New(%q) = %v, %v, want %v", text, m, fault, want)
	}
}

// P11.1, and P1: any texts at all.
func TestAnyTexts(t *testing.T) {
	chance := rand.New(rand.NewSource(21))
	pieces := []string{`\`, "(", ")", "{", "}", "[", "]", "*", "^", "$", ",", "2", "a", `\(`, `\)`, `\{2\}`, `\1`, `\(.*\)`}
	for range 20000 {
		text := randomText(chance, pieces, 30)
		if chance.Intn(2) == 0 {
			text += string([]byte{byte(chance.Intn(256))})
		}
		_, want := bre.Parse(text)
		checkFault(t, text, want)
		if m, _ := New(text); m != nil {
			checkMatch(t, m, randomText(chance, pieces, 12), chance.Intn(40)-3)
		}
	}
}

// randomText answers a text of some of the pieces.
func randomText(chance *rand.Rand, pieces []string, most int) string {
	var text strings.Builder
	for range chance.Intn(most + 1) {
		text.WriteString(pieces[chance.Intn(len(pieces))])
	}
	return text.String()
}

func TestTextAndGroups(t *testing.T) {
	for text, groups := range map[string]int{
		``: 0, `a`: 0, `a*b\{2\}`: 0, `^$`: 0, `[\(a\)]`: 0, `(a)`: 0, `\(\)`: 1, `\(a\)*`: 1, `\(a\)\{0\}`: 1, `\(a\)\1`: 1, `\(a\)\1\1`: 1, `\(\(a\)b\)`: 2, `\(a\)\(b\)\2\1`: 2,
		`\(\(\(\(\(\(\(\(\(a\)\)\)\)\)\)\)\)\)`: 9, strings.Repeat(`\(\)`, 9) + `\9`: 9, "a\nb\x00\xff": 0, strings.Repeat("a*", 256): 0, strings.Repeat("a", 256): 0,
	} {
		m := read(t, text)
		for range 2 {
			if m.Text() != text || m.Groups() != groups {
				t.Errorf("New(%q): Text %q, Groups %d, want %d", text, m.Text(), m.Groups(), groups)
			}
			m.Match("aab", 1)
			m.Match("b", -1)
		}
	}
}

// withoutBack and withBack have BREs without and with back-references.
func withoutBack() []string {
	return []string{
		``, `a`, `b*`, `.`, `^`, `$`, `^a`, `a$`, `^$`, `^.*$`, `[^a]`, `ab*`, `a\{2\}`, `a\{1,2\}b`, `\(a*\)`, `\(a*\)*b`, `\(a*\)\{1,\}b`, `\(\(a\)*b\)*`, `\(a\{1,2\}\)\{2\}`, `\(.*\)\(.*\)`, `\(a*\)\(ab\)*\(b*\)`,
		`\(^a\)*b`, `\(a$\)*`, `\(\)*`, `\(a\)\{0\}`, `\(.\)\{2,\}\(b\)*`, `\(\(a*\)*\(b*\)*\)*`,
	}
}

func withBack() []string {
	return []string{
		`\(a\)\1`, `\(.\)\1`, `\(a*\)\1`, `\(.*\)\1`, `\(.*\)\1$`, `^\(.*\)\1`, `\(a*\)b\1`, `\(a\)*\1`, `\(\)\1`, `\(.\)\1*`, `\(.\)\1\{2\}`, `\(.\)\(.\)\2\1`, `\(\(a\)*b\)*\2`, `\(a\)\{0\}\1*`, `\(.\)\1\{0\}`, `\(a*\)*\1`, `\(^.\)\1`, `\(.$\)\1*`, `\(a*\)*\(b\)\2`,
	}
}

// checkMatch holds one Match, and the steps that it took, against the layers below.
func checkMatch(t *testing.T, m *Matcher, subject string, from int) {
	t.Helper()
	ahead := m.Steps()
	spans, found, e := m.Match(subject, from)
	rise := m.Steps() - ahead
	want, wantFound, count, wantE := setmatch.Match(m.Text(), subject, from)
	fits := rise == count
	if wantE == api.ErrBack {
		want, wantFound, wantE = backmatch.Match(m.Text(), subject, from)
		fits = rise >= 0 && (!found || rise >= spans[0].To-spans[0].From) && (e == api.OK || rise == 0)
	}
	if !slices.Equal(spans, want) || found != wantFound || e != wantE {
		t.Fatalf("%q: Match(%q, %d) = %v, %v, %d, want %v, %v, %d", m.Text(), subject, from, spans, found, e, want, wantFound, wantE)
	}
	if !fits {
		t.Fatalf("%q: Match(%q, %d) = %v, %v, %d: the steps went from %d to %d", m.Text(), subject, from, spans, found, e, ahead, m.Steps())
	}
}

// subjects has small ones, and some with too many ways behind places that have few.
func subjects() []string {
	twenty := strings.Repeat("a", 20)
	return []string{"", "a", "b", "aa", "ab", "ba", "bb", "aab", "abb", "abab", "baab", "aabaa", "abccbaab", "a\nb\n\n", "\x00\xff\xff", twenty, "bcc" + twenty + "bb", "bb" + twenty + "bb"}
}

// P11.2 and P11.3: from every place, and from some that are none, in many orders, with one matcher.
func TestMatchAndSteps(t *testing.T) {
	chance := rand.New(rand.NewSource(22))
	for _, text := range append(withoutBack(), withBack()...) {
		m := read(t, text)
		if m.Steps() != 0 {
			t.Errorf("%q: %d steps at first", text, m.Steps())
		}
		for _, subject := range subjects() {
			for from := -2; from <= len(subject)+2; from++ {
				checkMatch(t, m, subject, from)
			}
		}
		for range 200 {
			subject := subjects()[chance.Intn(len(subjects()))]
			checkMatch(t, m, subject, chance.Intn(len(subject)+4)-2)
		}
	}
}

// P11.2: whatever was asked of the matcher ahead, and of others, the answer is what a new one answers.
func TestMatchersKnowNothingOfOneAnother(t *testing.T) {
	chance := rand.New(rand.NewSource(23))
	texts := append(withoutBack(), withBack()...)
	var many []*Matcher
	for _, text := range append(texts, texts...) {
		many = append(many, read(t, text))
	}
	steps := make([]int, len(many))
	for range 5000 {
		i := chance.Intn(len(many))
		subject := subjects()[chance.Intn(len(subjects()))]
		from := chance.Intn(len(subject)+4) - 2
		spans, found, e := many[i].Match(subject, from)
		fresh := read(t, many[i].Text())
		want, wantFound, wantE := fresh.Match(subject, from)
		if !slices.Equal(spans, want) || found != wantFound || e != wantE {
			t.Fatalf("%q: Match(%q, %d) = %v, %v, %d, of a new one %v, %v, %d", many[i].Text(), subject, from, spans, found, e, want, wantFound, wantE)
		}
		steps[i] += fresh.Steps()
	}
	for i, m := range many {
		if m.Steps() != steps[i] {
			t.Errorf("%q: %d steps, and %d of new ones that were asked the same", m.Text(), m.Steps(), steps[i])
		}
	}
}

// The way hangs on back-references alone: without one no number of ways is too great; with one it is, wherever it stands.
func TestTheWayOfMatching(t *testing.T) {
	long := strings.Repeat("a", 1024)
	m := read(t, `\(a*\)*b`)
	check(t, m, long, 0)
	check(t, m, long[:1023]+"b", 0, span(0, 1024), span(0, 1023))
	if m.Steps() < 1024 {
		t.Errorf("%d steps", m.Steps())
	}
	for _, text := range []string{`\(a*\)*b\1`, `\(a*\)*\1`, `\(a*\)*\1\{0\}`, `\(a*\)*\(\)\2`, `\(a*\)*\(\1b\)*`, `\(\(a*\)*\2\)*`} {
		checkRefused(t, api.ErrWays, read(t, text), long[:1000]+"bb", 0)
	}
	check(t, read(t, `\(a*\)*\1\{0\}`), "aaa", 0, span(0, 3), span(0, 3))
}

// P11.3: with back-references, too, each match's length is among the steps, however many matches there are.
func TestStepsOfLongMatches(t *testing.T) {
	long := strings.Repeat("ab", 512)
	for _, text := range []string{`^\(.*\)\1$`, `^\(ab\)\{100\}.*\1$`, `.*`, `\(ab\)*`} {
		m := read(t, text)
		for count := 1; count <= 3; count++ {
			if spans, _, e := m.Match(long, 0); e != api.OK || len(spans) == 0 || spans[0] != span(0, 1024) || m.Steps() < 1024*count {
				t.Errorf("%q: Match = %v, %d, %d steps behind %d of them", text, spans, e, m.Steps(), count)
			}
		}
	}
}

// Errors.

func TestEachErrorAlone(t *testing.T) {
	for _, text := range []string{"", "a*", "^", "b", `\(a*\)\1`, `\(b\)\1`} {
		m := read(t, text)
		for range 2 {
			checkRefused(t, api.ErrSpace, m, strings.Repeat("a", 1025), 0)
			checkRefused(t, api.ErrSpace, m, strings.Repeat("a", 5000), 1)
			for _, place := range []int{-1, -2, 3, 4, 1 << 40, -1 << 63, 1<<63 - 1} {
				checkRefused(t, api.ErrArg, m, "aa", place)
			}
			checkRefused(t, api.ErrArg, m, "", 1)
			checkRefused(t, api.ErrArg, m, "", -1)
			checkRefused(t, api.ErrArg, m, strings.Repeat("a", 1024), 1025)
			m.Match("aab", 0)
		}
	}
	checkRefused(t, api.ErrWays, read(t, `\(a*\)*\1`), strings.Repeat("a", 1024), 0)
}

// Two errors at a time: the one that the chapter names first is the answer.
func TestTwoErrorsAtATime(t *testing.T) {
	long := strings.Repeat("a", 1025)
	many := `\(a*\)*\1`
	for _, text := range []string{"", "a*", "b", `\(a*\)\1`, many} {
		m := read(t, text)
		checkRefused(t, api.ErrSpace, m, long, 0)
		checkRefused(t, api.ErrSpace, m, long, -1)
		checkRefused(t, api.ErrSpace, m, long, 1026)
		checkRefused(t, api.ErrArg, m, long[:1024], -1)
		checkRefused(t, api.ErrArg, m, long[:1024], 1025)
	}
	checkNil(t, nil)
	// Two faults of a BRE: the first that is met.
	for text, want := range map[string]api.Fault{`a\)[z-a]`: {E: api.ErrParen, At: 1}, `[z-a]a\)`: {E: api.ErrRange, At: 0}, strings.Repeat(`\)`, 257): {E: api.ErrLong, At: 0}} {
		checkFault(t, text, want)
	}
}

// Memory.

// spoil overwrites a list, and the room behind it.
func spoil(list []api.Span) {
	list = list[:cap(list)]
	for i := range list {
		list[i] = span(-7, -8)
	}
}

func TestListsAreNew(t *testing.T) {
	for _, c := range []struct{ text, subject string }{{"a*", "aaa"}, {"", ""}, {`\(a\)*\(b\)*`, "ab"}, {`\(a\)\1*\(b\)*`, "ab"}, {`\(\(\(\(\(\(\(\(\(a\)\)\)\)\)\)\)\)\)\9`, "aa"}} {
		m := read(t, c.text)
		spans, _, _ := m.Match(c.subject, 0)
		want := slices.Clone(spans)
		again, _, _ := m.Match(c.subject, 0)
		spoil(spans)
		if len(want) == 0 || !slices.Equal(again, want) {
			t.Errorf("%q: lists of two calls share memory", c.text)
		}
		spoil(again)
		if then, _, _ := m.Match(c.subject, 0); !slices.Equal(then, want) {
			t.Errorf("%q: what is done to an answer is seen in the next", c.text)
		}
	}
}

// What is handed in is neither changed nor kept: a matcher has its BRE for itself, and new bytes in a subject's memory are read anew.
func TestArgumentsAreNotKept(t *testing.T) {
	for _, own := range []string{`\(a*\)\1b`, `\(a*\)\(b\)`} {
		text, subject := []byte(own), []byte("aaab")
		m := read(t, unsafe.String(&text[0], len(text)))
		copy(text, "^^^^^^^^^^^^")
		view := unsafe.String(&subject[0], len(subject))
		checkMatch(t, m, view, 0)
		spans, _, _ := m.Match(view, 0)
		kept := slices.Clone(spans)
		if string(subject) != "aaab" || m.Text() != own {
			t.Errorf("%q: the text is %q, the subject %q", own, m.Text(), subject)
		}
		copy(subject, "abaa")
		checkMatch(t, m, view, 0)
		if then, found, e := m.Match(view, 0); !found || e != api.OK || slices.Equal(then, kept) || !slices.Equal(spans, kept) {
			t.Errorf("%q: Match = %v, %v, %d, the earlier list %v", own, then, found, e, spans)
		}
	}
}

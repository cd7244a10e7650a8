package reach

import (
	"math/rand"
	"regexp"
	"slices"
	"strconv"
	"strings"
	"testing"
	"unsafe"

	"runnel/api"
	"runnel/bre"
	"runnel/bset"
	"runnel/measure"
)

// transposed turns lists of ends, one for each place, into lists of starts.
func transposed(ends [][]int) [][]int {
	starts := make([][]int, len(ends))
	for i, list := range ends {
		for _, j := range list {
			starts[j] = append(starts[j], i)
		}
	}
	return starts
}

// wantFirst answers what First should, if these are the ends for each place.
func wantFirst(ends [][]int, from int) (api.Span, bool) {
	for i := from; i < len(ends); i++ {
		if len(ends[i]) > 0 {
			return api.Span{From: i, To: slices.Max(ends[i])}, true
		}
	}
	return api.Span{}, false
}

// checkAll holds all calls, at every place of a subject, against the lists of ends that there should be.
func checkAll(t *testing.T, text, subject string, ends [][]int) {
	t.Helper()
	if len(ends) != len(subject)+1 {
		t.Fatalf("%q, %q: %d lists for %d places", text, subject, len(ends), len(subject)+1)
	}
	starts := transposed(ends)
	for place := range ends {
		if list, e := Ends(text, subject, place); !slices.Equal(list, ends[place]) || e != api.OK {
			t.Fatalf("Ends(%q, %q, %d) = %v, %d, want %v", text, subject, place, list, e, ends[place])
		}
		if list, e := Starts(text, subject, place); !slices.Equal(list, starts[place]) || e != api.OK {
			t.Fatalf("Starts(%q, %q, %d) = %v, %d, want %v", text, subject, place, list, e, starts[place])
		}
		span, found := wantFirst(ends, place)
		if s, ok, e := First(text, subject, place); s != span || ok != found || e != api.OK {
			t.Fatalf("First(%q, %q, %d) = %v, %v, %d, want %v, %v", text, subject, place, s, ok, e, span, found)
		}
	}
	whole := slices.Contains(ends[0], len(subject))
	if w, e := Whole(text, subject); w != whole || e != api.OK {
		t.Fatalf("Whole(%q, %q) = %v, %d, want %v", text, subject, w, e, whole)
	}
}

// row is a BRE, a subject, and the ends for each place: digits, or a - where there are none.
type row struct{ text, subject, ends string }

func checkRows(t *testing.T, rows []row) {
	t.Helper()
	for _, r := range rows {
		var ends [][]int
		for _, field := range strings.Fields(r.ends) {
			var list []int
			for _, digit := range strings.TrimPrefix(field, "-") {
				list = append(list, int(digit-'0'))
			}
			ends = append(ends, list)
		}
		checkAll(t, r.text, r.subject, ends)
	}
}

func TestTheChaptersExamples(t *testing.T) {
	for _, c := range []struct {
		text, subject string
		at            int
		want          []int
	}{{`a*`, "aab", 0, []int{0, 1, 2}}, {`a*`, "aab", 1, []int{1, 2}}, {`a*`, "aab", 3, []int{3}}, {`a*$`, "aab", 0, nil}} {
		if list, e := Ends(c.text, c.subject, c.at); !slices.Equal(list, c.want) || e != api.OK {
			t.Errorf("Ends(%q, %q, %d) = %v, %d, want %v", c.text, c.subject, c.at, list, e, c.want)
		}
	}
	if list, e := Starts(`a*`, "aab", 2); !slices.Equal(list, []int{0, 1, 2}) || e != api.OK {
		t.Errorf("Starts = %v, %d", list, e)
	}
	if whole, e := Whole(`a*b`, "aab"); !whole || e != api.OK {
		t.Errorf("Whole = %v, %d", whole, e)
	}
	checkFirst(t, `b*`, "aab", map[int]api.Span{0: {From: 0, To: 0}})
	checkFirst(t, `b`, "aab", map[int]api.Span{0: {From: 2, To: 3}})
	checkFirst(t, `^b`, "ab", map[int]api.Span{1: none})
	if list, e := Ends(`\(a\)\1`, "aa", 0); len(list) != 0 || e != api.ErrBack {
		t.Errorf("Ends of a back-reference = %v, %d", list, e)
	}
	if list, e := Ends(`a`, "a", 2); len(list) != 0 || e != api.ErrArg {
		t.Errorf("Ends beyond the end = %v, %d", list, e)
	}
}

// P7.1: each kind of a part, at every place.

func TestSets(t *testing.T) {
	checkRows(t, []row{
		{``, "", "0"},
		{``, "ab", "0 1 2"},
		{`a`, "", "-"},
		{`a`, "aba", "1 - 3 -"},
		{`ab`, "abab", "2 - 4 - -"},
		{`.`, "a\n\x00\xff", "1 2 3 4 -"},
		{`.b.`, "abbc", "3 4 - - -"},
		{`[ab]c`, "acbc", "2 - 4 - -"},
		{`[^a]`, "ab\n\xff", "- 2 3 4 -"},
		{"[^\x00-\xff]", "ab", "- - -"},
		{"a[^\x00-\xff]*", "ab", "1 - -"},
		{`\n`, "a\nb", "- 2 - -"},
		{`*\*`, "***", "2 3 - -"},
		{"\x00[\x80-\xfe]", "\x00\xfe\x00\xff", "2 - - - -"},
	})
}

func TestAnchors(t *testing.T) {
	checkRows(t, []row{
		{`^`, "", "0"},
		{`$`, "", "0"},
		{`^$`, "", "0"},
		{`^`, "ab", "0 - -"},
		{`$`, "ab", "- - 2"},
		{`^$`, "a", "- -"},
		{`^a`, "aa", "1 - -"},
		{`a$`, "aa", "- 2 -"},
		{`^aa$`, "aa", "2 - -"},
		{`^a$`, "aa", "- - -"},
		{`^a*$`, "aa", "2 - -"},
		{`^a*$`, "ab", "- - -"},
		{`a^$b`, "a^$b", "4 - - - -"},
		{`^b`, "a\nb", "- - - -"},
		{`a$`, "a\nb", "- - - -"},
		{`^a*`, "aab", "012 - - -"},
		{`a*$`, "baa", "- 3 3 3"},
	})
}

func TestAnchorsAndGroups(t *testing.T) {
	checkRows(t, []row{
		{`\(^a\)`, "aa", "1 - -"},
		{`\(a$\)`, "aa", "- 2 -"},
		{`\(^a$\)`, "a", "1 -"},
		{`\(^\)a`, "aa", "1 - -"},
		{`a\($\)`, "aa", "- 2 -"},
		{`^\(a\)$`, "a", "1 -"},
		{`a\(^b\)`, "ab", "- - -"},
		{`\(a$\)b`, "ab", "- - -"},
		{`a*\(^b\)`, "bab", "1 - - -"},
		{`\(b$\)a*`, "bab", "- - 3 -"},
		{`a*\(^b*\)a`, "baa", "2 - - -"},
		{`\(\(^\)\)\(\($\)\)`, "", "0"},
		{`\(\(^\)\)\(\($\)\)`, "a", "- -"},
		{`\(^\(^a\)\)b`, "ab", "2 - -"},
		{`\(a*\(^\)b*\($\)\)`, "bb", "2 - -"},
		{`\(a*$\)\(^b*\)`, "", "0"},
		{`\(a*$\)\(^b*\)`, "a", "- -"},
	})
}

func TestAnchorsAndRepeats(t *testing.T) {
	checkRows(t, []row{
		{`\(^a\)*`, "aa", "01 1 2"},
		{`\(a$\)*`, "aa", "0 12 2"},
		{`\(^a*\)\{2\}`, "aab", "012 - - -"},
		{`\(a*$\)\{2\}`, "baa", "- 3 3 3"},
		{`\(^a\)\{2\}`, "aa", "- - -"},
		{`\(^a\)\{1,\}`, "aa", "1 - -"},
		{`\(^a\)\{0,2\}a`, "aaa", "12 2 3 -"},
		{`\(^\)*a`, "aa", "1 2 -"},
		{`\(^\)\{1,\}`, "a", "0 -"},
		{`\($\)\{2,5\}`, "a", "- 1"},
		{`\(^$\)*a`, "a", "1 -"},
		{`\(^$\)\{3\}`, "", "0"},
		{`a\(^b\)*c`, "abcac", "- - - 5 - -"},
		{`a\(b$\)*c*`, "abc", "1 - - -"},
		{`a\(b$\)*c*`, "ab", "12 - -"},
		{`\(a\($\)*\)*`, "aa", "012 12 2"},
		{`\(\(^\)*a\)*`, "aa", "012 12 2"},
		{`\(\(^\)\{1,\}a*\)*b`, "aabb", "3 - 3 4 -"},
	})
}

func TestGroups(t *testing.T) {
	checkRows(t, []row{
		{`\(\)`, "a", "0 1"},
		{`\(a\)\(b\)`, "ab", "2 - -"},
		{`\(\(a\)b\)`, "ab", "2 - -"},
		{`\(\(\(\(\(\(\(\(\(a\)\)\)\)\)\)\)\)\)`, "aa", "1 2 -"},
		{`\(\)a\(\)b\(\)`, "ab", "2 - -"},
		{`\(\(a*\)\(b*\)\)c*`, "abc", "0123 123 23 3"},
		{`\(a*\)\(ab\)*\(b*\)`, "abb", "0123 123 23 3"},
		{`\(a\(b\(c*\)\)\)\(c\)`, "abcc", "34 - - - -"},
	})
}

func TestRepeatsOfEveryForm(t *testing.T) {
	checkRows(t, []row{
		{`a*`, "aab", "012 12 2 3"},
		{`a\{2\}`, "aaa", "2 3 - -"},
		{`a\{1,\}`, "aaa", "123 23 3 -"},
		{`a\{2,\}`, "aaaa", "234 34 4 - -"},
		{`a\{1,2\}`, "aaa", "12 23 3 -"},
		{`a\{0,1\}`, "aa", "01 12 2"},
		{`a\{0,2\}b`, "aaab", "- 4 4 4 -"},
		{`a\{0,\}`, "aa", "012 12 2"},
		{`a\{1\}`, "aa", "1 2 -"},
		{`a*b*c`, "abcc", "3 3 3 4 -"},
		{`.*b`, "abab", "24 24 4 4 -"},
		{`a.*b.*`, "acbb", "34 - - - -"},
		{`[ab]*[bc]*`, "abcb", "01234 1234 234 34 4"},
		{`\(ab\)*`, "abab", "024 1 24 3 4"},
		{`\(ab\)\{1,\}a`, "ababa", "35 - 5 - - -"},
		{`\(ab*\)\{2\}`, "abab", "34 - - - -"},
		{`\(ab*\)\{1,2\}a`, "abaa", "34 - 4 - -"},
		{`\(ab\)\{2,3\}`, "abababab", "46 - 68 - 8 - - - -"},
		{`\(a*b\)\{2,\}`, "babab", "35 5 5 - - -"},
	})
}

func TestRepeatsOfRepeats(t *testing.T) {
	checkRows(t, []row{
		{`a**`, "aab", "012 12 2 3"},
		{`a*\{2\}`, "aa", "012 12 2"},
		{`a\{2\}*`, "aaaaa", "024 135 24 35 4 5"},
		{`a\{2\}\{2\}`, "aaaaa", "4 5 - - - -"},
		{`a\{2,3\}\{2\}`, "aaaaaa", "456 56 6 - - - -"},
		{`a\{3\}\{0,2\}`, "aaaaaaa", "036 147 25 36 47 5 6 7"},
		{`a\{2,\}\{2,\}`, "aaaaa", "45 5 - - - -"},
		{`a\{3\}\{1,\}`, "aaaaaaa", "36 47 5 6 7 - - -"},
		{`a\{1,\}\{1,\}\{1,\}`, "aa", "12 2 -"},
		{`\(a\{2,3\}\)\{0,2\}b`, "aaaaab", "6 6 6 6 - 6 -"},
		{`\(a\{2\}\)\{1,\}$`, "aaaa", "4 - 4 - -"},
		{`\(\(ab\)*c\)*`, "abcc", "034 1 234 34 4"},
		{`\(\(a\{2\}\)*b\)\{2\}`, "aabbb", "4 - 4 5 - -"},
	})
}

func TestRepeatsOfWhatCanMatchNothing(t *testing.T) {
	checkRows(t, []row{
		{`\(\)*`, "a", "0 1"},
		{`\(\)*a`, "a", "1 -"},
		{`\(\)\{3\}a`, "a", "1 -"},
		{`\(\)\{2,4\}`, "a", "0 1"},
		{`\(a*\)*`, "aab", "012 12 2 3"},
		{`\(a*\)\{3\}`, "aa", "012 12 2"},
		{`\(a*\)\{2,\}b`, "aab", "3 3 3 -"},
		{`\(a*b*\)*`, "abac", "0123 123 23 3 4"},
		{`\(a*b*\)\{1,2\}c`, "ababac", "- - 6 6 6 6 -"},
		{`\(a\{0,1\}\)\{2\}`, "aaa", "012 123 23 3"},
		{`\(a\{0,1\}b\{0,1\}\)\{2\}`, "aba", "0123 123 23 3"},
		{`\(\(\)*\)*`, "a", "0 1"},
		{`\(\(a*\)*\(b*\)*\)*`, "ba", "012 12 2"},
	})
}

func TestRepeatsOfNoTimes(t *testing.T) {
	checkRows(t, []row{
		{`a\{0\}`, "a", "0 1"},
		{`a\{0,0\}b`, "ab", "- 2 -"},
		{`a*\{0\}b`, "ab", "- 2 -"},
		{`\(^a$\)\{0\}`, "ab", "0 1 2"},
		{`\(a\)\{0\}*`, "a", "0 1"},
		{`\(a\{0\}b\)*`, "bab", "01 1 23 3"},
		{`\(^\)\{0\}a\($\)\{0\}`, "aa", "1 2 -"},
		{`a\{0\}\{5\}`, "a", "0 1"},
		{`\(` + strings.Repeat("a", 256) + `\)\{0\}` + strings.Repeat("b", 2), "abb", "- 3 - -"},
	})
}

// Starts by itself.
func TestStarts(t *testing.T) {
	for _, c := range []struct {
		text, subject string
		to            int
		want          []int
	}{
		{`a*$`, "aab", 3, []int{3}}, {`a*$`, "aab", 2, nil}, {`^a*`, "aab", 2, []int{0}}, {`^a*`, "aab", 3, nil}, {`a*`, "aab", 0, []int{0}}, {`a*`, "aab", 3, []int{3}},
		{`\(ab*\)\{2\}`, "abab", 4, []int{0}}, {`.*`, "abcde", 4, []int{0, 1, 2, 3, 4}}, {`..`, "abcde", 1, nil}, {`..`, "abcde", 2, []int{0}}, {`a\{2,3\}`, "aaaaa", 4, []int{1, 2}}, {``, "ab", 1, []int{1}}, {`$`, "ab", 2, []int{2}}, {`^`, "ab", 2, nil},
	} {
		if list, e := Starts(c.text, c.subject, c.to); !slices.Equal(list, c.want) || e != api.OK {
			t.Errorf("Starts(%q, %q, %d) = %v, %d, want %v", c.text, c.subject, c.to, list, e, c.want)
		}
	}
}

// P7.2.
func TestWhole(t *testing.T) {
	for subject, texts := range map[string][]string{
		"":    {``, `^`, `$`, `^$`, `a*`, `\(\)`, `a\{0,3\}`, `\(^$\)*`},
		"a":   {`a`, `.`, `^a$`, `a*`, `[^b]`, `\(a\)`, `a\{1,2\}`, `b*a`, `ab*`},
		"aab": {`a*b`, `.*`, `aab`, `^.*b$`, `a\{2\}b`, `\(a*b*\)*`, `[ab]\{3\}`},
		"a\n": {`a\n`, `..`, `a[^b]`, `.*$`},
	} {
		for _, text := range texts {
			if whole, e := Whole(text, subject); !whole || e != api.OK {
				t.Errorf("Whole(%q, %q) = %v, %d, want true", text, subject, whole, e)
			}
		}
	}
	for subject, texts := range map[string][]string{
		"":    {`a`, `.`, `a\{1,\}`, "[^\x00-\xff]"},
		"a":   {``, `^`, `$`, `b`, `aa`, `^$`, `a\{2,\}`, `\(a\)\{0\}`},
		"aab": {`a*`, `b`, `ab`, `aa`, `a*$`, `^a*`, `a\{3\}b`, `[ab]\{2\}`, `[ab]\{4\}`},
		"a\n": {`a`, `a$`, `a$\n`, `.`},
	} {
		for _, text := range texts {
			if whole, e := Whole(text, subject); whole || e != api.OK {
				t.Errorf("Whole(%q, %q) = %v, %d, want false", text, subject, whole, e)
			}
		}
	}
}

// none stands for no match at all.
var none = api.Span{From: -1, To: -1}

// checkFirst holds First, from each place that is given, against a span.
func checkFirst(t *testing.T, text, subject string, spans map[int]api.Span) {
	t.Helper()
	for from, span := range spans {
		found := span != none
		if !found {
			span = api.Span{}
		}
		if s, ok, e := First(text, subject, from); s != span || ok != found || e != api.OK {
			t.Errorf("First(%q, %q, %d) = %v, %v, %d, want %v, %v", text, subject, from, s, ok, e, span, found)
		}
	}
}

// P7.3: the leftmost place, and of its ends the longest, from the beginning, from within and from the end.
func TestFirst(t *testing.T) {
	checkFirst(t, `b*`, "aab", map[int]api.Span{0: {From: 0, To: 0}, 1: {From: 1, To: 1}, 2: {From: 2, To: 3}, 3: {From: 3, To: 3}})
	checkFirst(t, `b`, "aab", map[int]api.Span{0: {From: 2, To: 3}, 2: {From: 2, To: 3}, 3: none})
	checkFirst(t, `a\{1,\}`, "baabaaa", map[int]api.Span{0: {From: 1, To: 3}, 1: {From: 1, To: 3}, 2: {From: 2, To: 3}, 3: {From: 4, To: 7}, 6: {From: 6, To: 7}, 7: none})
	// A short match further left stands ahead of a long one further right.
	checkFirst(t, `a*b`, "bcaaab", map[int]api.Span{0: {From: 0, To: 1}, 1: {From: 2, To: 6}, 3: {From: 3, To: 6}, 6: none})
	// The longest is not the one that takes the most at first.
	checkFirst(t, `\(ab\)\{0,1\}\(abc\)\{0,1\}`, "abcab", map[int]api.Span{0: {From: 0, To: 3}, 1: {From: 1, To: 1}, 3: {From: 3, To: 5}})
	checkFirst(t, `\(a\{2\}\)*\(a\{3\}\)*`, "aaaaa", map[int]api.Span{0: {From: 0, To: 5}, 1: {From: 1, To: 5}, 4: {From: 4, To: 4}})
	checkFirst(t, `^a*`, "aab", map[int]api.Span{0: {From: 0, To: 2}, 1: none, 3: none})
	checkFirst(t, `a*$`, "aaba", map[int]api.Span{0: {From: 3, To: 4}, 3: {From: 3, To: 4}, 4: {From: 4, To: 4}})
	checkFirst(t, `$`, "ab", map[int]api.Span{0: {From: 2, To: 2}, 1: {From: 2, To: 2}, 2: {From: 2, To: 2}})
	checkFirst(t, `^`, "ab", map[int]api.Span{0: {From: 0, To: 0}, 1: none, 2: none})
	checkFirst(t, `^$`, "", map[int]api.Span{0: {From: 0, To: 0}})
	checkFirst(t, ``, "ab", map[int]api.Span{0: {From: 0, To: 0}, 1: {From: 1, To: 1}, 2: {From: 2, To: 2}})
	checkFirst(t, `c`, "ab", map[int]api.Span{0: none, 1: none, 2: none})
}

// deriveAll answers where the derivations of a tree end that begin at one of the places given, by the words of the document.
func deriveAll(r api.Re, subject string, from map[int]int) map[int]int {
	ends := map[int]int{}
	switch r.Kind {
	case api.KByte:
		for at := range from {
			if at < len(subject) && bset.Has(r.Set, subject[at]) {
				ends[at+1] = 1
			}
		}
	case api.KBol:
		if from[0] == 1 {
			ends[0] = 1
		}
	case api.KEol:
		if from[len(subject)] == 1 {
			ends[len(subject)] = 1
		}
	case api.KRepeat:
		for at := range from {
			iterate(r, subject, at, 0, ends)
		}
	default:
		ends = from
		for _, kid := range r.Kids {
			ends = deriveAll(kid, subject, ends)
		}
	}
	return ends
}

// iterate lays the ends of a repeat, of which so many iterations end at a place, into ends.
func iterate(r api.Re, subject string, at, count int, ends map[int]int) {
	if count >= r.Lo {
		ends[at] = 1
	}
	if r.Hi >= 0 && count == r.Hi {
		return
	}
	for to := range deriveAll(r.Kids[0], subject, map[int]int{at: 1}) {
		if count < r.Lo || to > at {
			iterate(r, subject, to, count+1, ends)
		}
	}
}

// slowEnds answers the ends of the derivations from each place.
func slowEnds(tree api.Re, subject string) [][]int {
	lists := make([][]int, len(subject)+1)
	for at := range lists {
		ends := deriveAll(tree, subject, map[int]int{at: 1})
		for j := range len(subject) + 1 {
			if ends[j] == 1 {
				lists[at] = append(lists[at], j)
			}
		}
	}
	return lists
}

// checkBounds holds the lengths of what is matched against layer 6.
func checkBounds(t *testing.T, text, subject string) {
	t.Helper()
	known, _ := measure.Of(text)
	for at := range len(subject) + 1 {
		list, _ := Ends(text, subject, at)
		for _, j := range list {
			if j-at < known.Least || known.Most >= 0 && j-at > known.Most {
				t.Fatalf("Ends(%q, %q, %d) = %v, but the lengths are %d to %d", text, subject, at, list, known.Least, known.Most)
			}
		}
	}
}

// hasBack tells whether a tree has a back-reference.
func hasBack(r api.Re) bool {
	return r.Kind == api.KBack || slices.ContainsFunc(r.Kids, hasBack)
}

// checkText holds a text on some subjects, or its error.
func checkText(t *testing.T, text string, subjects []string) bool {
	t.Helper()
	tree, fault := bre.Parse(text)
	if fault.E == api.OK && hasBack(tree) {
		fault.E = api.ErrBack
	}
	if fault.E != api.OK {
		checkRefused(t, fault.E, text, "ab", 1)
		return false
	}
	for _, subject := range subjects {
		checkAll(t, text, subject, slowEnds(tree, subject))
		checkBounds(t, text, subject)
	}
	return true
}

// P7.1 to P7.4: every text of up to four telling pieces, and those behind some beginnings.
func TestAllShortTexts(t *testing.T) {
	pieces := []string{"a", "b", "*", "^", "$", `\(`, `\)`, `\{0\}`, `\{2\}`, `\{1,\}`, `\{0,2\}`, `\1`}
	good := 0
	var grow func(text string, more int)
	grow = func(text string, more int) {
		if checkText(t, text, []string{"", "a", "ab", "baa"}) {
			good++
		}
		if more == 0 {
			return
		}
		for _, piece := range pieces {
			grow(text+piece, more-1)
		}
	}
	grow("", 4)
	grow(`\(a*`, 3)
	grow(`\(^`, 3)
	grow(`\(\(b$\)`, 3)
	if good < 4000 {
		t.Errorf("just %d texts were BREs", good)
	}
}

// randomText puts pieces together.
func randomText(chance *rand.Rand, pieces []string, most int) string {
	text := ""
	for range 1 + chance.Intn(most) {
		text += pieces[chance.Intn(len(pieces))]
	}
	return text
}

func TestRandomTexts(t *testing.T) {
	pieces := []string{"a", "a", "b", ".", "[ab]", "[^a]", `\n`, "*", "*", "^", "$", `\(`, `\(`, `\(^`, `\)`, `\)`, `$\)`, `\{0\}`, `\{0,1\}`, `\{2\}`, `\{1,2\}`, `\{2,3\}`, `\{1,\}`, `\(a*\)`, `\(b*a\)*`}
	chance := rand.New(rand.NewSource(5))
	good := 0
	for range 30000 {
		subject := randomText(chance, []string{"a", "a", "a", "b", "b", "\n", "\xff"}, 7)
		if checkText(t, randomText(chance, pieces, 10), []string{subject}) {
			good++
		}
	}
	if good < 3000 {
		t.Errorf("just %d texts were BREs", good)
	}
}

// toRegexp writes a tree for package regexp, which reads subjects of ASCII bytes the same.
func toRegexp(r api.Re) string {
	inside := ""
	for _, kid := range r.Kids {
		inside += toRegexp(kid)
	}
	switch r.Kind {
	case api.KBol:
		return `\A`
	case api.KEol:
		return `\z`
	case api.KByte:
		class := ""
		for b := range bset.Members(r.Set) {
			class += `\x{` + strconv.FormatInt(int64(b), 16) + "}"
		}
		return "[" + class + "]"
	case api.KRepeat:
		hi := ""
		if r.Hi >= 0 {
			hi = strconv.Itoa(r.Hi)
		}
		return "(?:" + inside + "){" + strconv.Itoa(r.Lo) + "," + hi + "}"
	}
	return "(?:" + inside + ")"
}

// Longer subjects, whole and, where no anchor looks beyond it, each piece of them. With anchors the calls are held against each other.
func TestAgainstAnotherMatcher(t *testing.T) {
	pieces := []string{"a", "a", "b", "b", "c", ".", "[ab]", "[^a]", "*", "*", "^", "$", `\(`, `\(`, `\)`, `\)`, `\{3\}`, `\{1,2\}`, `\{4,7\}`, `\{2,\}`, `\(a*b\)*`, `\(.*c\)\{0,3\}`}
	chance := rand.New(rand.NewSource(6))
	held, matched := 0, 0
	for range 5000 {
		text := randomText(chance, pieces, 14)
		tree, fault := bre.Parse(text)
		if fault.E != api.OK {
			continue
		}
		other, err := regexp.Compile(`\A(?:` + toRegexp(tree) + `)\z`)
		if err != nil {
			t.Fatal(err)
		}
		subject := randomText(chance, []string{"a", "b", "aa", "ab", "c"}, 20)
		want := other.MatchString(subject)
		if whole, e := Whole(text, subject); whole != want || e != api.OK {
			t.Fatalf("Whole(%q, %q) = %v, %d, want %v", text, subject, whole, e, want)
		}
		held++
		known, _ := measure.Of(text)
		ends := make([][]int, len(subject)+1)
		for at := range ends {
			if known.Bol || known.Eol {
				ends[at], _ = Ends(text, subject, at)
				continue
			}
			for to := at; to <= len(subject); to++ {
				if other.MatchString(subject[at:to]) {
					ends[at] = append(ends[at], to)
					matched++
				}
			}
		}
		checkAll(t, text, subject, ends)
	}
	if held < 1000 || matched < 6000 {
		t.Errorf("just %d texts were held, with %d matches", held, matched)
	}
}

// The errors.

// checkRefused holds each call against an error, with zero results beside it. Whole has no place that could be at fault.
func checkRefused(t *testing.T, want api.Errno, text, subject string, place int) {
	t.Helper()
	if list, e := Ends(text, subject, place); e != want || len(list) != 0 {
		t.Errorf("Ends(%q, %d bytes, %d) = %v, %d, want error %d", text, len(subject), place, list, e, want)
	}
	if list, e := Starts(text, subject, place); e != want || len(list) != 0 {
		t.Errorf("Starts(%q, %d bytes, %d) = %v, %d, want error %d", text, len(subject), place, list, e, want)
	}
	if span, ok, e := First(text, subject, place); e != want || ok || span != (api.Span{}) {
		t.Errorf("First(%q, %d bytes, %d) = %v, %v, %d, want error %d", text, len(subject), place, span, ok, e, want)
	}
	if want == api.ErrArg {
		return
	}
	if whole, e := Whole(text, subject); e != want || whole {
		t.Errorf("Whole(%q, %d bytes) = %v, %d, want error %d", text, len(subject), whole, e, want)
	}
}

// faulty has texts with each error of bre.Parse. The empty text beside some would match, if the fault were overlooked.
func faulty() map[api.Errno][]string {
	return map[api.Errno][]string{
		api.ErrLong:   {strings.Repeat("^", 513), "a*" + strings.Repeat(`\`, 511)},
		api.ErrEnd:    {`a*\`, `[`, `a*[^`},
		api.ErrClass:  {`[[:Digit:]]*`},
		api.ErrRange:  {`[z-a]*`},
		api.ErrRepeat: {`\{1\}`, `a\{2,1\}`, `a\{256\}`, `a*\}`},
		api.ErrFull:   {strings.Repeat(`\(\)`, 10)},
		api.ErrParen:  {`\(a*`, `a*\)`},
		api.ErrBack:   {`\1`, `\(a\1\)*`, `\(a\)\2`},
		api.ErrEscape: {`\w*`, `a*\0`},
		api.ErrTooBig: {strings.Repeat("a", 257), `a\{255\}bc`},
	}
}

// backward has texts with back-references.
func backward() []string {
	return []string{`\(a\)\1`, `\(a*\)\1*`, `\(\)\1`, `\(\(a\)\2\)\{0\}`, `\(a\)\1\{0\}`, `^\(a*\)b\(\1\)$`}
}

func TestEachErrorAlone(t *testing.T) {
	for want, texts := range faulty() {
		for _, text := range texts {
			checkRefused(t, want, text, "aa", 0)
			checkRefused(t, want, text, "", 0)
		}
	}
	for _, text := range backward() {
		checkRefused(t, api.ErrBack, text, "aa", 0)
		checkRefused(t, api.ErrBack, text, "", 0)
	}
	for _, text := range []string{"", "a*", "^", "b"} {
		checkRefused(t, api.ErrSpace, text, strings.Repeat("a", 1025), 0)
		checkRefused(t, api.ErrSpace, text, strings.Repeat("a", 5000), 1)
		for _, place := range []int{-1, -2, 3, 4, 1 << 40, -1 << 63, 1<<63 - 1} {
			checkRefused(t, api.ErrArg, text, "aa", place)
		}
		checkRefused(t, api.ErrArg, text, "", 1)
		checkRefused(t, api.ErrArg, text, "", -1)
	}
}

// Two errors at a time: the one that the chapter names first is the answer.
func TestTwoErrorsAtATime(t *testing.T) {
	long := strings.Repeat("a", 1025)
	for want, texts := range faulty() {
		for _, text := range texts {
			checkRefused(t, want, text, long, 0)
			checkRefused(t, want, text, "a", -1)
			checkRefused(t, want, text, "a", 2)
			checkRefused(t, want, text, long, 1026)
		}
	}
	for _, text := range backward() {
		// A back-reference and a fault of another kind, ahead of it and behind.
		checkRefused(t, api.ErrEscape, text+`\w`, "a", 0)
		checkRefused(t, api.ErrEnd, text+`\`, "a", 0)
		checkRefused(t, api.ErrRepeat, `\{1\}`+text, "a", 0)
		checkRefused(t, api.ErrBack, text, long, 0)
		checkRefused(t, api.ErrBack, text, "a", -1)
		checkRefused(t, api.ErrBack, text, "a", 2)
		checkRefused(t, api.ErrBack, text, long, 1026)
	}
	for _, text := range []string{"", "a*", "b"} {
		checkRefused(t, api.ErrSpace, text, long, -1)
		checkRefused(t, api.ErrSpace, text, long, 1025)
		checkRefused(t, api.ErrSpace, text, long, 1026)
	}
}

// The limits.

// upTo answers the numbers from lo to hi.
func upTo(lo, hi int) []int {
	var list []int
	for n := lo; n <= hi; n++ {
		list = append(list, n)
	}
	return list
}

func TestASubjectOfMaxSpaceBytes(t *testing.T) {
	long := strings.Repeat("a", 1024)
	for at, want := range map[int][]int{0: upTo(0, 1024), 1: upTo(1, 1024), 700: upTo(700, 1024), 1024: {1024}} {
		if list, e := Ends("a*", long, at); !slices.Equal(list, want) || e != api.OK {
			t.Errorf("Ends at %d = %d places, %d", at, len(list), e)
		}
	}
	for to, want := range map[int][]int{0: {0}, 1: {0, 1}, 700: upTo(0, 700), 1024: upTo(0, 1024)} {
		if list, e := Starts("a*", long, to); !slices.Equal(list, want) || e != api.OK {
			t.Errorf("Starts to %d = %d places, %d", to, len(list), e)
		}
	}
	if whole, e := Whole(`a\{16\}\{15\}\(.*\)$`, long); !whole || e != api.OK {
		t.Errorf("Whole = %v, %d", whole, e)
	}
	checkFirst(t, "a*", long, map[int]api.Span{0: {From: 0, To: 1024}, 5: {From: 5, To: 1024}, 1024: {From: 1024, To: 1024}})
	checkFirst(t, "b$", long[:1023]+"b", map[int]api.Span{0: {From: 1023, To: 1024}, 1023: {From: 1023, To: 1024}, 1024: none})
	checkRefused(t, api.ErrArg, "a*", long, 1025)
	checkRefused(t, api.ErrArg, "a*", long, -1)
	checkRefused(t, api.ErrSpace, "a*", long+"a", 0)
}

func TestPlaces(t *testing.T) {
	for _, c := range []struct {
		place int
		e     api.Errno
	}{{-1, api.ErrArg}, {0, api.OK}, {2, api.OK}, {3, api.ErrArg}} {
		_, ends := Ends("a*", "aa", c.place)
		_, starts := Starts("a*", "aa", c.place)
		_, found, first := First("a*", "aa", c.place)
		if ends != c.e || starts != c.e || first != c.e || found != (c.e == api.OK) {
			t.Errorf("at %d: Ends %d, Starts %d, First %v, %d, want %d", c.place, ends, starts, found, first, c.e)
		}
	}
}

func TestTextsOfMaxRePositions(t *testing.T) {
	long := strings.Repeat("a", 300)
	for text, want := range map[string][]int{
		strings.Repeat("a", 256):      {256},
		strings.Repeat(".", 256):      {256},
		`a\{255\}b`:                   nil,
		`a\{255\}[ab]`:                {256},
		`a\{16\}\{16\}`:               {256},
		`a\{0,255\}.`:                 upTo(1, 256),
		`a\{255,\}.`:                  upTo(256, 300),
		`\(a\{16\}\)\{1,16\}`:         {16, 32, 48, 64, 80, 96, 112, 128, 144, 160, 176, 192, 208, 224, 240, 256},
		`\(a*\)\{255\}a`:              upTo(1, 300),
		`\(a\{128\}\)\{2,\}`:          {256},
		`\(a\{100\}\)*\{2\}`:          {0, 100, 200, 300},
		`\(aaaaaaaa\)\{32\}$`:         nil,
		`\(a\{60\}\)\{4,\}\(\)*$`:     {300},
		`\(\(a\{5\}\)\{0,10\}\)\{5\}`: {0, 5, 10, 15, 20, 25, 30, 35, 40, 45, 50, 55, 60, 65, 70, 75, 80, 85, 90, 95, 100, 105, 110, 115, 120, 125, 130, 135, 140, 145, 150, 155, 160, 165, 170, 175, 180, 185, 190, 195, 200, 205, 210, 215, 220, 225, 230, 235, 240, 245, 250},
	} {
		if list, e := Ends(text, long, 0); !slices.Equal(list, want) || e != api.OK {
			t.Errorf("Ends(%q, 300 bytes, 0) = %v, %d, want %v", text, list, e, want)
		}
		if len(want) == 0 {
			continue
		}
		for _, to := range []int{want[0], want[len(want)/2], want[len(want)-1]} {
			if list, e := Starts(text, long, to); !slices.Contains(list, 0) || e != api.OK {
				t.Errorf("Starts(%q, 300 bytes, %d) = %v, %d", text, to, list, e)
			}
		}
	}
}

// P1: repeats within repeats, which no one could write out or try one by one.
func TestDeepRepeatsEnd(t *testing.T) {
	long := strings.Repeat("a", 1024)
	nested := `a*$`
	for range 8 {
		nested = `a\(` + nested + `\)\{0,1\}*`
	}
	for text, want := range map[string][]int{
		`\(\)` + strings.Repeat(`\{255\}`, 72):               {0},
		`\(^\)` + strings.Repeat(`\{255\}`, 72):              {0},
		`\(^\)` + strings.Repeat(`\{255,\}`, 60) + "a":       {1},
		`\($\)` + strings.Repeat(`\{2,9\}`, 72):              nil,
		`\(\(^\)*\(\)*\)` + strings.Repeat(`\{0,255\}`, 50):  {0},
		`a` + strings.Repeat(`\{1,\}`, 84):                   upTo(1, 1024),
		`a` + strings.Repeat(`*`, 511):                       upTo(0, 1024),
		`\(a` + strings.Repeat(`*`, 490) + `\)\{255\}`:       upTo(0, 1024),
		`a` + strings.Repeat(`\{0\}`, 102):                   {0},
		`\(\(\(\(\(\(\(\(\(a*\)*\)*\)*\)*\)*\)*\)*\)*\)*b`:   nil,
		`\(\(\(\(\(\(\(\(\(a*a*\)*\)*\)*\)*\)*\)*\)*\)*\)*$`: {1024},
		`\(a*\)\{255\}$`: {1024},
		// What follows on any a, and may follow on itself, is any number of them.
		nested: upTo(1, 1024),
	} {
		if list, e := Ends(text, long, 0); !slices.Equal(list, want) || e != api.OK {
			t.Errorf("Ends(%q) = %d places, %d, want %d", text, len(list), e, len(want))
		}
		if _, e := Starts(text, long, 1024); e != api.OK {
			t.Errorf("Starts(%q): %d", text, e)
		}
		if _, ok, e := First(text, long, 0); !ok && len(want) > 0 || e != api.OK {
			t.Errorf("First(%q): %v, %d", text, ok, e)
		}
	}
}

// P1, P2: any bytes are answered, and the same each time.
func TestAnswersAtAllArguments(t *testing.T) {
	chance := rand.New(rand.NewSource(7))
	pieces := []string{`\`, "(", ")", "{", "}", "[", "]", "*", "^", "$", ",", "2", "a", `\(`, `\)`, `\{2\}`, `\1`}
	for range 20000 {
		text := randomText(chance, pieces, 30)
		if chance.Intn(2) == 0 {
			text += string([]byte{byte(chance.Intn(256))})
		}
		subject := randomText(chance, pieces, 12)
		place := chance.Intn(40) - 3
		ends, e := Ends(text, subject, place)
		starts, f := Starts(text, subject, place)
		span, ok, g := First(text, subject, place)
		if e != f || e != g || ok && len(ends) > 0 != (span.From == place) {
			t.Fatalf("%q, %q, %d: Ends %v, %d, Starts %v, %d, First %v, %v, %d", text, subject, place, ends, e, starts, f, span, ok, g)
		}
		again, _ := Ends(text, subject, place)
		backAgain, _ := Starts(text, subject, place)
		spanAgain, okAgain, _ := First(text, subject, place)
		if !slices.Equal(ends, again) || !slices.Equal(starts, backAgain) || span != spanAgain || ok != okAgain {
			t.Fatalf("%q, %q, %d: told otherwise the second time", text, subject, place)
		}
	}
}

// spoil overwrites a list, and the room behind it.
func spoil(list []int) {
	list = list[:cap(list)]
	for i := range list {
		list[i] = -7
	}
}

// Memory: a list that is answered is new each time, its spare room too.
func TestListsAreNew(t *testing.T) {
	for _, c := range []struct{ text, subject string }{{"a*", "aaa"}, {"", "ab"}, {"^a*", "aaaaaaa"}, {"a*", strings.Repeat("a", 1000)}} {
		ends, _ := Ends(c.text, c.subject, 0)
		starts, _ := Starts(c.text, c.subject, len(ends)-1)
		wantEnds, wantStarts := slices.Clone(ends), slices.Clone(starts)
		endsAgain, _ := Ends(c.text, c.subject, 0)
		startsAgain, _ := Starts(c.text, c.subject, len(ends)-1)
		spoil(ends)
		spoil(starts)
		if !slices.Equal(endsAgain, wantEnds) || !slices.Equal(startsAgain, wantStarts) {
			t.Errorf("%q: lists of two calls share memory", c.text)
		}
		endsThen, _ := Ends(c.text, c.subject, 0)
		startsThen, _ := Starts(c.text, c.subject, len(wantEnds)-1)
		if !slices.Equal(endsThen, wantEnds) || !slices.Equal(startsThen, wantStarts) {
			t.Errorf("%q: what is done to an answer is seen in the next", c.text)
		}
	}
}

// What is handed in is neither changed nor kept: new bytes in the same memory are read anew.
func TestArgumentsAreNotKept(t *testing.T) {
	text, subject := []byte("a*b"), []byte("aab")
	textView, subjectView := unsafe.String(&text[0], 3), unsafe.String(&subject[0], 3)
	ends, _ := Ends(textView, subjectView, 0)
	if !slices.Equal(ends, []int{3}) || string(text) != "a*b" || string(subject) != "aab" {
		t.Fatalf("Ends = %v, of %q and %q", ends, text, subject)
	}
	copy(text, "b*a")
	copy(subject, "bba")
	if whole, e := Whole(textView, subjectView); !whole || e != api.OK || !slices.Equal(ends, []int{3}) {
		t.Errorf("Whole = %v, %d, the earlier list %v", whole, e, ends)
	}
	if starts, e := Starts(textView, subjectView, 3); !slices.Equal(starts, []int{0, 1, 2}) || e != api.OK {
		t.Errorf("Starts = %v, %d", starts, e)
	}
}

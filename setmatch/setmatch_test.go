package setmatch

import (
	"math/rand"
	"slices"
	"strconv"
	"strings"
	"testing"
	"unsafe"

	"runnel/api"
	"runnel/measure"
)

// parseSpans reads spans: "1-4 -" are {1, 4} and {-1, -1}; "none" is no match.
func parseSpans(t *testing.T, text string) ([]api.Span, bool) {
	t.Helper()
	if text == "none" {
		return nil, false
	}
	var spans []api.Span
	for _, field := range strings.Fields(text) {
		from, to, _ := strings.Cut(field, "-")
		span := api.Span{From: -1, To: -1}
		if field != "-" {
			span.From, _ = strconv.Atoi(from)
			span.To, _ = strconv.Atoi(to)
		}
		spans = append(spans, span)
	}
	return spans, true
}

// row is a BRE, a subject, a place, and the spans.
type row struct {
	text, subject string
	from          int
	spans         string
}

func checkRows(t *testing.T, rows []row) {
	t.Helper()
	for _, r := range rows {
		want, found := parseSpans(t, r.spans)
		check(t, r.text, r.subject, r.from, want, found)
	}
}

func TestTheChaptersExamples(t *testing.T) {
	checkRows(t, []row{
		{`\(a*\)b`, "xaab", 0, "1-4 1-3"},
		{`\(a*\)*b`, "aab", 0, "0-3 0-2"},
		{`\(a*\)*b`, "b", 0, "0-1 -"},
		{`\(a*\)\{1,\}b`, "b", 0, "0-1 0-0"},
		{`\(\(a\)*b\)*`, "aabb", 0, "0-4 3-4 1-2"},
		{`\(a\{1,2\}\)\{2\}`, "aaa", 0, "0-3 2-3"},
		{`a`, "b", 0, "none"},
	})
	checkRefused(t, api.ErrArg, `a`, "a", -1)
}

// The leftmost place, and of its ends the longest, from the beginning, from within and from the end.
func TestTheWhole(t *testing.T) {
	checkRows(t, []row{
		{``, "ab", 0, "0-0"}, {``, "ab", 1, "1-1"}, {``, "ab", 2, "2-2"}, {``, "", 0, "0-0"},
		{`b`, "aab", 0, "2-3"}, {`b`, "aab", 2, "2-3"}, {`b`, "aab", 3, "none"},
		{`b*`, "aab", 0, "0-0"}, {`b*`, "aab", 2, "2-3"}, {`b*`, "aab", 3, "3-3"},
		{`a*b`, "bcaaab", 0, "0-1"}, {`a*b`, "bcaaab", 1, "2-6"}, {`a*b`, "bcaaab", 3, "3-6"},
		{`a\{1,\}`, "baabaaa", 0, "1-3"}, {`a\{1,\}`, "baabaaa", 3, "4-7"}, {`a\{1,\}`, "baabaaa", 7, "none"},
		{`^a*`, "aab", 0, "0-2"}, {`^a*`, "aab", 1, "none"}, {`a*$`, "aaba", 0, "3-4"}, {`a*$`, "aaba", 4, "4-4"},
		{`^$`, "", 0, "0-0"}, {`^$`, "a", 0, "none"}, {`$`, "ab", 0, "2-2"}, {`^`, "ab", 1, "none"},
		{`.`, "\n\x00\xff", 0, "0-1"}, {`\n.`, "a\n\xff", 0, "1-3"}, {`^b`, "a\nb", 0, "none"}, {`a$`, "a\nb", 0, "none"},
		{"[^\x00-\xff]", "ab", 0, "none"}, {"[\xfe-\xff]", "a\xff", 0, "1-2"},
		// A start that fails late has gone over what a later one needs: ab of the second a.
		{`a*bc`, "aabaabc", 0, "3-7"}, {`aab*c`, "aaabbc", 0, "1-6"}, {`a.\{2\}c`, "aabbc", 0, "1-5"}, {`\(ab\)*c`, "ababac", 0, "5-6 -"},
		{`a[ab]*c\{0,1\}d`, "aaabab", 0, "none"}, {`.*x\{1\}`, "aaa", 0, "none"}, {`a*a*b*c`, "aaabbbd", 0, "none"},
	})
}

// What stands ahead takes as much as it may, so that there is a way to the end.
func TestGroupsSideBySide(t *testing.T) {
	checkRows(t, []row{
		{`\(a*\)\(a*\)`, "aaa", 0, "0-3 0-3 3-3"},
		{`\(a*\)\(a\)`, "aaa", 0, "0-3 0-2 2-3"},
		{`\(a*\)\(ab\)*\(b*\)`, "abb", 0, "0-3 0-1 - 1-3"},
		{`\(a\{0,1\}\)\(ab\)\{0,1\}\(b*\)`, "aabb", 0, "0-4 0-1 1-3 3-4"},
		{`\(a\)\{0,1\}\(ab\)\{0,1\}`, "ab", 0, "0-2 - 0-2"},
		{`\(.*\)b\(.*\)`, "abcbd", 0, "0-5 0-3 4-5"},
		{`\(.*\)x\(.*\)`, "1x2x3", 0, "0-5 0-3 4-5"},
		{`\(.\{1,2\}\)\(.\{1,2\}\)\(.\{1,2\}\)`, "abcd", 0, "0-4 0-2 2-3 3-4"},
		{`\(aa\)*\(aaa\)*`, "aaaaa", 0, "0-5 0-2 2-5"},
		{`\(aa\)*\(aaa\)*`, "aaaaaa", 0, "0-6 4-6 -"},
		{`\(\)\(a\)\(\)`, "a", 0, "0-1 0-0 0-1 1-1"},
		{`^\(a*\)\(b*\)$`, "aabb", 0, "0-4 0-2 2-4"},
		{`\(a\)\(b\)\(c\)\(d\)\(e\)\(f\)\(g\)\(h\)\(i\)`, "xabcdefghi", 0, "1-10 1-2 2-3 3-4 4-5 5-6 6-7 7-8 8-9 9-10"},
	})
}

func TestGroupsWithinGroups(t *testing.T) {
	checkRows(t, []row{
		{`\(\(a\)b\)`, "ab", 0, "0-2 0-2 0-1"},
		{`\(a\(b\(c\)\)\)`, "abc", 0, "0-3 0-3 1-3 2-3"},
		{`\(\(a*\)\(b*\)\)\(b\)`, "abb", 0, "0-3 0-2 0-1 1-2 2-3"},
		{`\(\(\(a*\)a\)a\)`, "aaaa", 0, "0-4 0-4 0-3 0-2"},
		{`\(a\(b\)*\)c`, "ac", 0, "0-2 0-1 -"},
		{`\(\(\)\)`, "a", 1, "1-1 1-1 1-1"},
		{`\(\(\(\(\(\(\(\(\(a\)\)\)\)\)\)\)\)\)`, "ba", 0, "1-2 1-2 1-2 1-2 1-2 1-2 1-2 1-2 1-2 1-2"},
		// The outer ones open first: a longer outer one stands ahead of a longer inner one.
		{`\(\(a\{0,1\}\)\(ab\)\{0,1\}\)\(b*\)`, "ab", 0, "0-2 0-2 0-0 0-2 2-2"},
	})
}

func TestRepeatsOfGroups(t *testing.T) {
	checkRows(t, []row{
		{`\(a\)*`, "aaa", 0, "0-3 2-3"},
		{`\(a\)*`, "b", 0, "0-0 -"},
		{`\(a\)\{2\}`, "aaa", 0, "0-2 1-2"},
		{`\(a\)\{1,\}`, "aaa", 1, "1-3 2-3"},
		{`\(a\)\{0,2\}`, "aaa", 0, "0-2 1-2"},
		{`\(ab*\)*`, "abbab", 0, "0-5 3-5"},
		{`\(a*b\)*`, "aabbc", 0, "0-4 3-4"},
		{`\(.\{1,2\}\)*`, "abc", 0, "0-3 2-3"},
		{`\(.\{1,3\}\)\{2\}`, "abcd", 0, "0-4 3-4"},
		{`\(.\{1,3\}\)\{3\}`, "abcd", 0, "0-4 3-4"},
		{`\(a\{1,2\}\)\{1,2\}b`, "aaab", 0, "0-4 2-3"},
		{`\(\(a\)*\(b\)*\)c`, "aabc", 0, "0-4 0-3 1-2 2-3"},
		{`\(.*\)\{2\}`, "ab", 0, "0-2 2-2"},
		{`\(.*\)\{2\}b`, "abb", 0, "0-3 2-2"},
	})
}

func TestRepeatsOfRepeats(t *testing.T) {
	checkRows(t, []row{
		{`\(a\)**`, "aa", 0, "0-2 1-2"},
		{`\(a\)*\{2\}`, "aa", 0, "0-2 1-2"},
		{`\(a\)\{2\}*`, "aaaaa", 0, "0-4 3-4"},
		{`\(\(a\)*\)*`, "aa", 0, "0-2 0-2 1-2"},
		{`\(\(a\{1,2\}\)*\)\{2\}`, "aaa", 0, "0-3 3-3 2-3"},
		{`\(\(a\{1,2\}\)\{2\}\)*`, "aaaaaaa", 0, "0-7 4-7 6-7"},
		{`\(\(a\{2\}\)\{1,\}b\{0,1\}\)*`, "aaaabaa", 0, "0-7 5-7 5-7"},
		{`\(\(ab\)\{1,2\}\)\{1,2\}`, "abababab", 0, "0-8 4-8 6-8"},
	})
}

// Iterations that match nothing are there as far as they must be.
func TestRepeatsOfWhatCanMatchNothing(t *testing.T) {
	checkRows(t, []row{
		{`\(\)*`, "a", 0, "0-0 -"},
		{`\(\)\{1,\}`, "a", 0, "0-0 0-0"},
		{`\(\)\{3\}a`, "ba", 0, "1-2 1-1"},
		{`\(\)\{0,3\}a`, "ba", 0, "1-2 -"},
		{`\(a*\)*`, "aab", 0, "0-2 0-2"},
		{`\(a*\)*`, "b", 0, "0-0 -"},
		{`\(a*\)\{2\}`, "aa", 0, "0-2 2-2"},
		{`\(a*\)\{1,2\}`, "aa", 0, "0-2 0-2"},
		{`\(a*\)\{2,\}b`, "aab", 0, "0-3 2-2"},
		{`\(\(a\)*\)\{2\}`, "aa", 0, "0-2 2-2 1-2"},
		{`\(\(a*\)*\)\{1,\}`, "b", 0, "0-0 0-0 -"},
		{`\(a*b*\)*`, "abab", 0, "0-4 2-4"},
		{`\(a*b*\)\{3\}`, "abab", 0, "0-4 4-4"},
		{`\(a\{0,1\}\)\{3\}`, "aa", 0, "0-2 2-2"},
		// Only the last can take a byte: behind one that did there would be no beginning.
		{`\(^a*\)\{3\}`, "aab", 0, "0-2 0-2"},
		{`\(\(^\)\{1,\}\(a\)*\)\{2\}`, "aa", 0, "0-2 0-2 0-0 1-2"},
		{`\(a*$\)\{3\}`, "aa", 0, "0-2 2-2"},
		{`\(a\{0,1\}$\)\{0,1\}`, "aa", 0, "0-0 -"},
	})
}

func TestRepeatsOfNoTimes(t *testing.T) {
	checkRows(t, []row{
		{`\(a\)\{0\}`, "a", 0, "0-0 -"},
		{`\(a\)\{0,0\}b`, "ab", 0, "1-2 -"},
		{`\(\(a\)\{0\}b\)*`, "bb", 0, "0-2 1-2 -"},
		{`\(\(a\)b\)\{0\}\(c\)`, "abc", 0, "2-3 - - 2-3"},
		{`\(a\)\{0\}*`, "a", 0, "0-0 -"},
		{`\(a\)\{0\}\{3\}`, "a", 0, "0-0 -"},
		{`\(\(a\)\{0\}\)\{3\}`, "a", 0, "0-0 0-0 -"},
	})
}

// A group keeps what it matched last, though later iterations have nothing of it.
func TestGroupsOfEarlyIterations(t *testing.T) {
	checkRows(t, []row{
		{`\(\(a\)\{0,1\}b\)*`, "abbb", 0, "0-4 3-4 0-1"},
		{`\(\(a\)*\(b\)*c\)*`, "aacbcc", 0, "0-6 5-6 1-2 3-4"},
		{`\(\(a\)\{0,1\}.\)\{3\}`, "abcd", 0, "0-4 3-4 0-1"},
		{`\(.\(a\)\{0,1\}\)*`, "xaxx", 0, "0-4 3-4 1-2"},
		{`\(\(\(a\)*b\)*c\)*`, "aabccc", 0, "0-6 5-6 0-3 1-2"},
		{`\(\(^a\)*b\)*`, "abb", 0, "0-3 2-3 0-1"},
		{`\(b\(a$\)*\)*`, "bba", 0, "0-3 1-3 2-3"},
	})
}

func TestAnchorsWithinGroups(t *testing.T) {
	checkRows(t, []row{
		{`\(^a\)`, "aa", 0, "0-1 0-1"},
		{`\(^a\)`, "aa", 1, "none"},
		{`\(a$\)`, "aa", 0, "1-2 1-2"},
		{`\(a*\)\(^b\)`, "bb", 0, "0-1 0-0 0-1"},
		{`\(a*\)\(^b\)`, "ab", 0, "none"},
		{`\(b$\)\(a*\)`, "bba", 0, "none"},
		{`\(a*\)\($\)`, "baa", 0, "1-3 1-3 3-3"},
		{`\(\(^\)*a\)*`, "aa", 0, "0-2 1-2 -"},
		{`\(\(^\)\{0,1\}a\)*`, "aa", 0, "0-2 1-2 -"},
		{`\(\(^\)\{1,\}\)*\(a\)`, "a", 0, "0-1 - - 0-1"},
		{`\(^$\)\{2\}`, "", 0, "0-0 0-0"},
		{`\(\(^\)\{1\}a*\)*b`, "aab", 0, "0-3 0-2 0-0"},
		{`\(\(^\)\{1\}a*\)*b`, "aab", 1, "2-3 - -"},
	})
}

// P8.1: as many spans as groups and one; beside no match there are none, and the count still tells.
func TestNoMatch(t *testing.T) {
	for _, text := range []string{`c`, `\(c\)`, `\(a\)\(c\)*d`, `^b`, `a$`, `\(\(\(\(c\)\)\)\)`} {
		for _, from := range []int{0, 1, 2} {
			spans, ok, count, e := Match(text, "ab", from)
			if len(spans) != 0 || ok || count < 0 || e != api.OK {
				t.Errorf("Match(%q, ab, %d) = %v, %v, %d, %d", text, from, spans, ok, count, e)
			}
		}
	}
	if _, _, count, _ := Match(`c`, "ab", 0); count < 2 {
		t.Errorf("to find no c in two bytes %d were held against it", count)
	}
}

// P8.2: the count, on runs of a's, with repeats in repeats. check holds it against its bounds; and the calls come back.
func TestRunsOfAs(t *testing.T) {
	for _, length := range []int{0, 1, 2, 20, 64, 1024} {
		run := strings.Repeat("a", length)
		whole := "0-" + strconv.Itoa(length)
		last := strconv.Itoa(length-1) + "-" + strconv.Itoa(length)
		if length == 0 {
			last = "-"
		}
		all, one := whole, "- -"
		if length == 0 {
			all = "-"
		} else {
			one = all + " " + last
		}
		for text, want := range map[string]string{
			`a*`:                       whole,
			`\(a*\)*`:                  whole + " " + all,
			`\(a*\)*b`:                 "none",
			`\(\(a*\)*\)*b`:            "none",
			`\(a*a*a*a*\)*b`:           "none",
			`\(a\{0,3\}\)\{0,20\}*b`:   "none",
			`\(\(a\)*\)*`:              whole + " " + one,
			`\(\(a\)\{0,1\}\)*$`:       whole + " " + last + " " + last,
			`\(\(\(a*\)*\)*\)*$`:       whole + " " + all + " " + all + " " + all,
			`\(a*\)*\(a*\)*\(a*\)*`:    whole + " " + all + " - -",
			`\(\(a*\)*\(b*\)*\)*[^a]*`: whole + " " + all + " " + all + " -",
		} {
			checkRows(t, []row{{text, run, 0, want}})
		}
	}
}

// checkRefused holds Match against an error, with nothing beside it.
func checkRefused(t *testing.T, want api.Errno, text, subject string, from int) {
	t.Helper()
	if spans, ok, count, e := Match(text, subject, from); e != want || len(spans) != 0 || ok || count != 0 {
		t.Errorf("Match(%q, %d bytes, %d) = %v, %v, %d, %d, want %d", text, len(subject), from, spans, ok, count, e, want)
	}
}

// faulty has texts with each error of bre.Parse. The empty text beside some would match, if the fault were overlooked.
func faulty() map[api.Errno][]string {
	return map[api.Errno][]string{
		api.ErrLong:   {strings.Repeat("^", 513), "a*" + strings.Repeat(`\`, 511)},
		api.ErrEnd:    {`a*\`, `[`, `a*[^`},
		api.ErrClass:  {`[[:Digit:]]*`},
		api.ErrRange:  {`[z-a]*`},
		api.ErrRepeat: {`\{1\}`, `a\{2,1\}`, `a\{256\}`, `a*\}`},
		api.ErrFull:   {strings.Repeat(`\(\)`, 10)},
		api.ErrParen:  {`\(a*`, `a*\)`},
		api.ErrBack:   {`\1`, `\(a\1\)*`, `\(a\)\2`},
		api.ErrEscape: {`\w*`, `a*\0`},
		api.ErrTooBig: {strings.Repeat("a", 257), `a\{255\}bc`},
	}
}

// backward has texts with back-references.
func backward() []string {
	return []string{`\(a\)\1`, `\(a*\)\1*`, `\(\)\1`, `\(\(a\)\2\)\{0\}`, `\(a\)\1\{0\}`, `^\(a*\)b\(\1\)$`}
}

func TestEachErrorAlone(t *testing.T) {
	for want, texts := range faulty() {
		for _, text := range texts {
			checkRefused(t, want, text, "aa", 0)
			checkRefused(t, want, text, "", 0)
		}
	}
	for _, text := range backward() {
		checkRefused(t, api.ErrBack, text, "aa", 0)
		checkRefused(t, api.ErrBack, text, "", 0)
	}
	for _, text := range []string{"", "a*", "^", "b"} {
		checkRefused(t, api.ErrSpace, text, strings.Repeat("a", 1025), 0)
		checkRefused(t, api.ErrSpace, text, strings.Repeat("a", 5000), 1)
		for _, place := range []int{-1, -2, 3, 4, 1 << 40, -1 << 63, 1<<63 - 1} {
			checkRefused(t, api.ErrArg, text, "aa", place)
		}
		checkRefused(t, api.ErrArg, text, "", 1)
		checkRefused(t, api.ErrArg, text, "", -1)
	}
}

// Two errors at a time: the one that the chapter names first is the answer.
func TestTwoErrorsAtATime(t *testing.T) {
	long := strings.Repeat("a", 1025)
	for want, texts := range faulty() {
		for _, text := range texts {
			checkRefused(t, want, text, long, 0)
			checkRefused(t, want, text, "a", -1)
			checkRefused(t, want, text, "a", 2)
			checkRefused(t, want, text, long, 1026)
		}
	}
	for _, text := range backward() {
		// A back-reference and a fault of another kind, ahead of it and behind.
		checkRefused(t, api.ErrEscape, text+`\w`, "a", 0)
		checkRefused(t, api.ErrEnd, text+`\`, "a", 0)
		checkRefused(t, api.ErrRepeat, `\{1\}`+text, "a", 0)
		checkRefused(t, api.ErrBack, text, long, 0)
		checkRefused(t, api.ErrBack, text, "a", -1)
		checkRefused(t, api.ErrBack, text, "a", 2)
		checkRefused(t, api.ErrBack, text, long, 1026)
	}
	for _, text := range []string{"", "a*", "b"} {
		checkRefused(t, api.ErrSpace, text, long, -1)
		checkRefused(t, api.ErrSpace, text, long, 1025)
		checkRefused(t, api.ErrSpace, text, long, 1026)
	}
}

// The limits.

func TestASubjectOfMaxSpaceBytes(t *testing.T) {
	long := strings.Repeat("a", 1024)
	checkRows(t, []row{
		{`\(a*\)`, long, 0, "0-1024 0-1024"}, {`\(a*\)`, long, 5, "5-1024 5-1024"}, {`\(a*\)`, long, 1024, "1024-1024 1024-1024"},
		{`\(a\)*`, long, 0, "0-1024 1023-1024"}, {`\(a\)$`, long, 0, "1023-1024 1023-1024"},
		{`\(b\)\($\)`, long[:1023] + "b", 0, "1023-1024 1023-1024 1024-1024"}, {`b`, long, 0, "none"},
		{`\(a\{3\}\)*\(.*\)`, long, 0, "0-1024 1020-1023 1023-1024"},
	})
	checkRefused(t, api.ErrArg, "a*", long, 1025)
	checkRefused(t, api.ErrArg, "a*", long, -1)
	checkRefused(t, api.ErrSpace, "a*", long+"a", 0)
}

func TestPlaces(t *testing.T) {
	checkRefused(t, api.ErrArg, `\(a*\)`, "aa", -1)
	checkRows(t, []row{{`\(a*\)`, "aa", 0, "0-2 0-2"}, {`\(a*\)`, "aa", 2, "2-2 2-2"}})
	checkRefused(t, api.ErrArg, `\(a*\)`, "aa", 3)
}

func TestTextsOfMaxRePositions(t *testing.T) {
	long := strings.Repeat("a", 300)
	checkRows(t, []row{
		{strings.Repeat("a", 256), long, 0, "0-256"},
		{`a\{255\}\(b\)`, long, 0, "none"},
		{`a\{255\}\([ab]\)`, long, 0, "0-256 255-256"},
		{`\(a\{0,255\}\)\(.\)`, long, 0, "0-256 0-255 255-256"},
		{`\(.\)\(a\{255,\}\)`, long, 0, "0-300 0-1 1-300"},
		{`\(a\{16\}\)\{1,16\}`, long, 0, "0-256 240-256"},
		{`\(a*\)\{255\}\(a\)`, long, 0, "0-300 299-299 299-300"},
		{`\(\(a\{5\}\)\{0,10\}\)\{5\}`, long, 0, "0-250 200-250 245-250"},
		{`\(a\)\{127\}\(a\)\{128\}\(a\)`, long, 7, "7-263 133-134 261-262 262-263"},
		{`\(\(a\)\{1,8\}\(a\)\{8\}\)\{16\}`, long, 0, "0-256 240-256 247-248 255-256"},
		{`\(` + strings.Repeat("a", 256) + `\)\{0\}\(b*\)`, "bb", 0, "0-2 - 0-2"},
	})
}

// P1: repeats within repeats, which no one could write out or try one by one.
func TestDeepRepeatsEnd(t *testing.T) {
	long := strings.Repeat("a", 1024)
	optional := `\(a\)*$`
	for range 8 {
		optional = `\(a*` + optional + `\)\{0,1\}*`
	}
	checkRows(t, []row{
		{`\(\)` + strings.Repeat(`\{255\}`, 72), long, 3, "3-3 3-3"},
		{`\(^\)` + strings.Repeat(`\{255\}`, 72), long, 0, "0-0 0-0"},
		{`\(^\)` + strings.Repeat(`\{255,\}`, 60) + "a", long, 0, "0-1 0-0"},
		{`\($\)` + strings.Repeat(`\{2,9\}`, 72), long, 0, "1024-1024 1024-1024"},
		{`\(\(^\)*\(\)\{2\}\)` + strings.Repeat(`\{1,255\}`, 50), long, 0, "0-0 0-0 - 0-0"},
		{`\(a\)` + strings.Repeat(`\{1,\}`, 84), long, 0, "0-1024 1023-1024"},
		{`\(a\)` + strings.Repeat(`*`, 507), long, 0, "0-1024 1023-1024"},
		{`\(a` + strings.Repeat(`*`, 490) + `\)\{255\}`, long, 0, "0-1024 1024-1024"},
		{`\(a\{0,255\}\)` + strings.Repeat(`*`, 495), long, 0, "0-1024 1020-1024"},
		{`\(a\)` + strings.Repeat(`\{0,1\}*`, 60), long, 0, "0-1024 1023-1024"},
		{`\(a\)` + strings.Repeat(`\{0\}`, 100), long, 0, "0-0 -"},
		{`\(\(\(\(\(\(\(\(\(a*\)*\)*\)*\)*\)*\)*\)*\)*\)*b`, long, 0, "none"},
		{`\(\(\(\(\(\(\(\(\(a\)*\)*\)*\)*\)*\)*\)*\)*\)*$`, long, 0, strings.Repeat("0-1024 ", 9) + "1023-1024"},
		{`\(a\(\(.*x\)\{0,1\}\)\{127\}\)*`, long, 0, "0-1024 1023-1024 1024-1024 -"},
		{`\(b\(a\)` + strings.Repeat("*", 480) + `\)*`, strings.Repeat("ba", 512), 0, "0-1024 1022-1024 1023-1024"},
		{`\(b\(\(a*\)` + strings.Repeat(`\{1,\}`, 75) + `\)\{200\}\)*`, strings.Repeat("b", 1024), 0, "0-1024 1023-1024 1024-1024 1024-1024"},
		{optional, long, 0, "0-1024 0-1024" + strings.Repeat(" -", 8)},
	})
}

// P1, P2: any bytes are answered, and the same each time.
func TestAnswersAtAllArguments(t *testing.T) {
	chance := rand.New(rand.NewSource(7))
	pieces := []string{`\`, "(", ")", "{", "}", "[", "]", "*", "^", "$", ",", "2", "a", `\(`, `\)`, `\{2\}`, `\1`}
	for range 20000 {
		text := randomText(chance, pieces, 30)
		if chance.Intn(2) == 0 {
			text += string([]byte{byte(chance.Intn(256))})
		}
		subject := randomText(chance, pieces, 12)
		from := chance.Intn(40) - 3
		spans, ok, count, e := Match(text, subject, from)
		_, fault := measure.Of(text)
		if (fault.E != api.OK || from < 0 || from > len(subject)) && e == api.OK || ok && len(spans) == 0 || e != api.OK && (ok || count != 0) || !ok && len(spans) > 0 {
			t.Fatalf("Match(%q, %q, %d) = %v, %v, %d, %d", text, subject, from, spans, ok, count, e)
		}
		again, okAgain, countAgain, f := Match(text, subject, from)
		if !slices.Equal(spans, again) || ok != okAgain || count != countAgain || e != f {
			t.Fatalf("Match(%q, %q, %d): told otherwise the second time", text, subject, from)
		}
	}
}

// spoil overwrites a list, and the room behind it.
func spoil(list []api.Span) {
	list = list[:cap(list)]
	for i := range list {
		list[i] = api.Span{From: -7, To: -8}
	}
}

// Memory: a list that is answered is new each time, its spare room too.
func TestListsAreNew(t *testing.T) {
	for _, c := range []struct{ text, subject string }{{"a*", "aaa"}, {"", ""}, {`\(a\)*\(b\)*`, "aaab"}, {`\(\(\(\(\(\(\(\(\(a\)*\)\)\)\)\)\)\)\)`, strings.Repeat("a", 1000)}} {
		spans, _, _, _ := Match(c.text, c.subject, 0)
		want := slices.Clone(spans)
		again, _, _, _ := Match(c.text, c.subject, 0)
		spoil(spans)
		if !slices.Equal(again, want) {
			t.Errorf("%q: lists of two calls share memory", c.text)
		}
		spoil(again)
		if then, _, _, _ := Match(c.text, c.subject, 0); !slices.Equal(then, want) {
			t.Errorf("%q: what is done to an answer is seen in the next", c.text)
		}
	}
}

// What is handed in is neither changed nor kept: new bytes in the same memory are read anew.
func TestArgumentsAreNotKept(t *testing.T) {
	text, subject := []byte(`\(a*\)b`), []byte("aab")
	textView, subjectView := unsafe.String(&text[0], len(text)), unsafe.String(&subject[0], len(subject))
	spans, _, _, _ := Match(textView, subjectView, 0)
	want := []api.Span{{From: 0, To: 3}, {From: 0, To: 2}}
	if !slices.Equal(spans, want) || string(text) != `\(a*\)b` || string(subject) != "aab" {
		t.Fatalf("Match = %v, of %q and %q", spans, text, subject)
	}
	copy(text, `b\(a*\)`)
	copy(subject, "bba")
	if then, ok, _, e := Match(textView, subjectView, 1); !slices.Equal(then, []api.Span{{From: 1, To: 3}, {From: 2, To: 3}}) || !ok || e != api.OK || !slices.Equal(spans, want) {
		t.Errorf("Match = %v, %v, %d, the earlier list %v", then, ok, e, spans)
	}
}

package backmatch

import (
	"math/rand"
	"slices"
	"strconv"
	"strings"
	"testing"
	"unsafe"

	"runnel/api"
	"runnel/measure"
	"runnel/ways"
)

// parseSpans reads spans: "1-4 -" are {1, 4} and {-1, -1}; "none" is no match.
func parseSpans(text string) ([]api.Span, bool) {
	if text == "none" {
		return nil, false
	}
	var spans []api.Span
	for _, field := range strings.Fields(text) {
		from, to, _ := strings.Cut(field, "-")
		span := api.Span{From: -1, To: -1}
		if field != "-" {
			span.From, _ = strconv.Atoi(from)
			span.To, _ = strconv.Atoi(to)
		}
		spans = append(spans, span)
	}
	return spans, true
}

// check holds Match against spans.
func check(t *testing.T, text, subject string, from int, want []api.Span, found bool) {
	t.Helper()
	spans, ok, e := Match(text, subject, from)
	if !slices.Equal(spans, want) || ok != found || e != api.OK {
		t.Fatalf("Match(%q, %q, %d) = %v, %v, %d, want %v, %v", text, subject, from, spans, ok, e, want, found)
	}
}

// checkRefused holds Match against an error, with nothing beside it.
func checkRefused(t *testing.T, want api.Errno, text, subject string, from int) {
	t.Helper()
	if spans, ok, e := Match(text, subject, from); e != want || len(spans) != 0 || ok {
		t.Fatalf("Match(%q, %d bytes, %d) = %v, %v, %d, want %d", text, len(subject), from, spans, ok, e, want)
	}
}

// row is a BRE, a subject, a place, and the spans.
type row struct {
	text, subject string
	from          int
	spans         string
}

func checkRows(t *testing.T, rows []row) {
	t.Helper()
	for _, r := range rows {
		want, found := parseSpans(r.spans)
		check(t, r.text, r.subject, r.from, want, found)
	}
}

func TestTheChaptersExamples(t *testing.T) {
	twenty := strings.Repeat("a", 20)
	checkRows(t, []row{
		{`\(a*\)\1`, "aaa", 0, "0-2 0-1"},
		{`\(.\)\1`, "abccd", 0, "2-4 2-3"},
		{`\(a\)*\1`, "b", 0, "none"},
		{`\(a*\)b\1`, "aabaa", 0, "0-5 0-2"},
		{`\(a*\)*\(b\)\2`, twenty + "bb", 18, "18-22 18-20 20-21"},
	})
	checkRefused(t, api.ErrWays, `\(\(a\)*\)*\2`, twenty, 0)
	checkRefused(t, api.ErrWays, `\(a*\)*\(b\)\2`, twenty+"bb", 0)
}

func TestBackReferences(t *testing.T) {
	checkRows(t, []row{
		{`\(ab\)\1`, "xababx", 0, "1-5 1-3"}, {`\(ab\)\1`, "abxab", 0, "none"}, {`\(a\)\1`, "a", 0, "none"}, {`\(a\)\1`, "baab", 2, "none"},
		{`\(.*\)x\1`, "abxab", 0, "0-5 0-2"}, {`\(.*\)x\1`, "abxb", 0, "1-4 1-2"}, {`\(.*\)x\1`, "abxcd", 0, "2-3 2-2"}, {`\(.*\)x\1`, "abxab", 1, "2-3 2-2"},
		{`\(a\)\(b\)\2\1`, "abba", 0, "0-4 0-1 1-2"}, {`\(.\)\(.\)\(.\)\3\2\1`, "xabccba", 0, "1-7 1-2 2-3 3-4"}, {`\(a\(b\)\)\2\1`, "abbab", 0, "0-5 0-2 1-2"},
		{`^\(.*\)\1$`, "abab", 0, "0-4 0-2"}, {`^\(.*\)\1$`, "aba", 0, "none"}, {`\(.*\)\1$`, "aba", 0, "3-3 3-3"}, {`\(^a\)\1`, "aa", 0, "0-2 0-1"}, {`\(^a\)\1`, "baa", 0, "none"},
		{`\(\n\)\1`, "a\n\nb", 0, "1-3 1-2"}, {"\\(\x00\xff\\)\\1", "\x00\xff\x00\xff", 0, "0-4 0-2"},
		{`\(a\)\(b\)\(c\)\(d\)\(e\)\(f\)\(g\)\(h\)\(i\)\9\1`, "abcdefghiia", 0, "0-11 0-1 1-2 2-3 3-4 4-5 5-6 6-7 7-8 8-9"},
	})
}

func TestTwoBackReferencesToOneGroup(t *testing.T) {
	checkRows(t, []row{
		{`\(a*\)\1\1`, "aaaaaaaa", 0, "0-6 0-2"}, {`\(.\)\1\1`, "aabbb", 0, "2-5 2-3"}, {`\(a*\)b\1c\1`, "aabaca", 0, "1-6 1-2"}, {`\(a\)\1b\1`, "aaba", 0, "0-4 0-1"}, {`\(a\)\1b\1`, "aabb", 0, "none"},
		{`\(.\)\(\1\)\2`, "abbbc", 0, "1-4 1-2 2-3"}, {`\(\(.\)\2\)\1`, "abbbb", 0, "1-5 1-3 1-2"}, {`\(.\)\(.\)\1\2\1`, "ababa", 0, "0-5 0-1 1-2"},
	})
}

// The longest is taken, and then each part, as it opens, is as long as it may be.
func TestWhichIsAhead(t *testing.T) {
	checkRows(t, []row{
		{`\(a*\)\(ab\)*\1`, "aaab", 0, "0-2 0-1 -"}, {`\(a*\)\(a*b\)\{0,1\}\1`, "aaab", 0, "0-4 0-0 0-4"}, {`\(a*\)b*\1`, "aabba", 0, "0-2 0-1"}, {`\(a*\)b*\1`, "abba", 0, "0-4 0-1"},
		{`\(a*\)\(a*\)\1`, "aaaa", 0, "0-4 0-2 2-2"}, {`\(a*\)\(a*\)\2`, "aaaa", 0, "0-4 0-4 4-4"}, {`\(a*\)\(a\{1,\}\)\2`, "aaaaa", 0, "0-5 0-3 3-4"}, {`\(a\{1,2\}\)*\1`, "aaaaa", 0, "0-5 3-4"},
		{`\(.\{1,2\}\)\(.*\)\1`, "abcab", 0, "0-5 0-2 2-3"}, {`\(.\{1,2\}\)\(.*\)\1`, "abcaab", 0, "0-6 0-2 2-4"}, {`\(.\)\(.*\)\1`, "abaca", 0, "0-5 0-1 1-4"},
		{`\(a\{0,1\}\)\(ab\)\{0,1\}\(b*\)\1`, "abb", 0, "0-3 0-0 0-2 2-3"},
	})
}

// A group that has matched nothing so far, not even the empty text, lets its back-references match nothing at all.
func TestGroupsThatHaveMatchedNothing(t *testing.T) {
	checkRows(t, []row{
		{`\(a\)*\1`, "ab", 0, "none"}, {`\(a\)*\1`, "aa", 0, "0-2 0-1"}, {`\(a\)*\1`, "", 0, "none"}, {`\(a\)\{0\}\1`, "a", 0, "none"}, {`\(a\)\{0\}\1*`, "aa", 0, "0-0 -"}, {`\(a\)\{0\}\1\{0\}b`, "b", 0, "0-1 -"}, {`\(a\)\{0\}\1\{0,1\}`, "", 0, "0-0 -"},
		{`\(a*\)\1`, "b", 0, "0-0 0-0"}, {`\(\)\1`, "a", 1, "1-1 1-1"}, {`\(\)\1\{3\}b`, "ab", 0, "1-2 1-1"}, {`\(a*\)*\1`, "b", 0, "none"}, {`\(a*\)\{1,\}\1`, "b", 0, "0-0 0-0"},
		{`\(\(a\)*b\)*\2`, "b", 0, "none"}, {`\(\(a\)*b\)*\2`, "abba", 0, "0-4 2-3 0-1"}, {`\(\(a\)*\2\)*b`, "aab", 0, "0-3 0-2 0-1"}, {`\(\(a\)*\2\)\{1\}`, "b", 0, "none"}, {`\(\(a*\)\2\)\{2\}`, "b", 0, "0-0 0-0 0-0"},
		{`\(\(a\)\{0,1\}\2\)\{2\}`, "", 0, "none"}, {`\(a*\)\(\(b\)\{0\}\3\)*`, "aab", 0, "0-2 0-2 - -"},
	})
}

// Of a group within a repeat the last iteration counts, though it may lie in an earlier one of what it stands in.
func TestGroupsWithinRepeats(t *testing.T) {
	checkRows(t, []row{
		{`\(.\)*\1`, "abb", 0, "0-3 1-2"}, {`\(a\)*\1`, "aaa", 0, "0-3 1-2"}, {`\(.\)\{2\}\1`, "aba", 0, "none"}, {`\(.\)\{2\}\1`, "abb", 0, "0-3 1-2"}, {`\(\(.\)\2\)*`, "aabbcd", 0, "0-4 2-4 2-3"}, {`\(\(.\)\2\)\{2\}`, "aabbcc", 1, "2-6 4-6 4-5"},
		{`\(a\(b\)\{0,1\}\2\)*`, "abba", 0, "0-3 0-3 1-2"}, {`\(a\(b\)\{0,1\}\2\)*`, "abbab", 0, "0-5 3-5 1-2"}, {`\(\(a*\)b\)*\2`, "aababa", 0, "0-6 3-5 3-4"}, {`\(\(a*\)b\)*\2`, "aabab", 0, "1-4 1-3 1-2"},
		{`\(.\)\1*`, "aaab", 0, "0-3 0-1"}, {`\(.\)\1\{2\}`, "aabbb", 0, "2-5 2-3"}, {`\(ab*\)\1\{1,2\}`, "ababab", 0, "0-6 0-2"}, {`\(b*\)\1*a`, "a", 0, "0-1 0-0"}, {`\(b*\)\1\{2\}a`, "a", 0, "0-1 0-0"}, {`\(b*\)\1\{2,\}a`, "bbba", 0, "0-4 0-1"}, {`\(.\)\(\1b\)*`, "aabab", 0, "0-5 0-1 3-5"},
	})
}

// P10.1: a place with too many ways is an error, whether it has a derivation or not, but only if no place ahead of it has one.
func TestTooManyWays(t *testing.T) {
	twenty := strings.Repeat("a", 20)
	checkRefused(t, api.ErrWays, `\(a*\)*\1`, twenty, 0)
	checkRefused(t, api.ErrWays, `\(b\)*\(a*\)*\1`, twenty, 0)
	checkRefused(t, api.ErrWays, `\(a*\)*`, twenty, 0)
	checkRefused(t, api.ErrWays, `\(a\)\1*`, strings.Repeat("a", 1024), 0)
	// Behind places that have few ways or none, and no derivation.
	checkRefused(t, api.ErrWays, `\(a*\)*\(b\)\2`, "bcc"+twenty+"bb", 0)
	checkRefused(t, api.ErrWays, `\(a*\)*\(b\)\2`, "bcc"+twenty+"bb", 3)
	// A match at an earlier place comes ahead of it.
	checkRows(t, []row{
		{`\(a*\)*\(b\)\2`, "bb" + twenty + "bb", 0, "0-2 - 0-1"}, {`\(a*\)*\(b\)\2`, "cbb" + twenty + "bb", 0, "1-3 - 1-2"}, {`\(a*\)*\(b\)\2`, "bcaabb" + twenty + "bb", 0, "2-6 2-4 4-5"},
		{`\(c*\)\(a*\)*d\1`, "d" + twenty + "d", 0, "0-1 0-0 -"}, {`\(c*\)\(a*\)*d\1`, "d" + twenty + "d", 15, "15-22 15-15 15-21"}, {`\(c*\)\(a*\)*d\1`, "d" + twenty + "d", 21, "21-22 21-21 -"},
	})
	checkRefused(t, api.ErrWays, `\(a*\)*\(b\)\2`, "bb"+twenty+"bb", 1)
	checkRefused(t, api.ErrWays, `\(c*\)\(a*\)*d\1`, "d"+twenty+"d", 1)
}

// MaxWays ways at a place work, one more doesn't.
func TestMaxWays(t *testing.T) {
	long := strings.Repeat("ab", 100)
	checkRows(t, []row{
		{`.\{0,63\}.\{0,63\}`, long, 0, "0-126"}, {`\(a*\)*`, strings.Repeat("a", 12), 0, "0-12 0-12"}, {`\(.\{0,1\}\)\{12\}`, long[:12], 0, "0-12 11-12"},
		// The back-reference's piece ends at the end in each way, and is empty: only 126 bytes ahead of the end there is a derivation.
		{`\(\).\{0,63\}.\{0,63\}\1$`, long, 0, "74-200 74-74"}, {`\(\)\(.\{1,63\}.\{0,64\}\)\{0,1\}\1$`, long, 0, "73-200 73-73 73-200"}, {`\(\)\(.\{0,63\}\).\{0,63\}\1$`, long, 3, "74-200 74-74 74-137"},
	})
	for _, text := range []string{`\(\).\{0,63\}.\{0,63\}\1$`, `\(\)\(.\{1,63\}.\{0,64\}\)\{0,1\}\1$`} {
		if count, e := ways.Count(text, long, 0); count != api.MaxWays || e != api.OK {
			t.Errorf("Count(%q) = %d, %d", text, count, e)
		}
	}
	for _, text := range []string{`.\{0,63\}.\{0,64\}`, `.\{0,16\}.\{0,240\}`, `\(\).\{0,63\}.\{0,64\}\1$`, `\(\)\(.\{1,64\}.\{0,63\}\)\{0,1\}\1$`} {
		checkRefused(t, api.ErrWays, text, long+long, 0)
	}
	checkRefused(t, api.ErrWays, `\(a*\)*`, strings.Repeat("a", 13), 0)
}

// Beside no match there are no spans.
func TestNoMatch(t *testing.T) {
	for _, text := range []string{`c`, `\(c\)`, `\(c\)\1`, `\(a\)\1`, `\(a\)\(c\)*d`, `^b`, `a$`, `\(\(\(\(c\)\)\)\)\4`} {
		for _, from := range []int{0, 1, 2} {
			if spans, ok, e := Match(text, "ab", from); len(spans) != 0 || ok || e != api.OK {
				t.Errorf("Match(%q, ab, %d) = %v, %v, %d", text, from, spans, ok, e)
			}
		}
	}
}

// faulty has texts with each error of bre.Parse. The empty text beside some would match, if the fault were overlooked.
func faulty() map[api.Errno][]string {
	return map[api.Errno][]string{
		api.ErrLong:   {strings.Repeat("^", 513), "a*" + strings.Repeat(`\`, 511)},
		api.ErrEnd:    {`a*\`, `[`, `a*[^`},
		api.ErrClass:  {`[[:Digit:]]*`},
		api.ErrRange:  {`[z-a]*`},
		api.ErrRepeat: {`\{1\}`, `a\{2,1\}`, `a\{256\}`, `a*\}`},
		api.ErrFull:   {strings.Repeat(`\(\)`, 10)},
		api.ErrParen:  {`\(a*`, `a*\)`, `\(a\)\1\(`},
		api.ErrBack:   {`\1`, `\(a\1\)*`, `\(a\)\2`},
		api.ErrEscape: {`\w*`, `a*\0`},
		api.ErrTooBig: {strings.Repeat("a", 257), `a\{255\}bc`, `\(a\)\1\{255\}b`},
	}
}

func TestEachErrorAlone(t *testing.T) {
	for want, texts := range faulty() {
		for _, text := range texts {
			checkRefused(t, want, text, "aa", 0)
			checkRefused(t, want, text, "", 0)
		}
	}
	for _, text := range []string{"", "a*", "^", "b", `\(a*\)\1`, `\(b\)\1`} {
		checkRefused(t, api.ErrSpace, text, strings.Repeat("a", 1025), 0)
		checkRefused(t, api.ErrSpace, text, strings.Repeat("a", 5000), 1)
		for _, place := range []int{-1, -2, 3, 4, 1 << 40, -1 << 63, 1<<63 - 1} {
			checkRefused(t, api.ErrArg, text, "aa", place)
		}
		checkRefused(t, api.ErrArg, text, "", 1)
		checkRefused(t, api.ErrArg, text, "", -1)
	}
	checkRefused(t, api.ErrWays, `\(a*\)*\1`, strings.Repeat("a", 1024), 0)
}

// Two errors at a time: the one that the chapter names first is the answer.
func TestTwoErrorsAtATime(t *testing.T) {
	long := strings.Repeat("a", 1025)
	for want, texts := range faulty() {
		for _, text := range texts {
			checkRefused(t, want, text, long, 0)
			checkRefused(t, want, text, "a", -1)
			checkRefused(t, want, text, "a", 2)
			checkRefused(t, want, text, long, 1026)
		}
	}
	// A BRE with too many ways, and a fault, a subject or a place that may not be.
	many := `\(a*\)*\1`
	checkRefused(t, api.ErrParen, many+`\(`, long[:1024], 0)
	checkRefused(t, api.ErrArg, many, long[:1024], -1)
	checkRefused(t, api.ErrArg, many, long[:1024], 1025)
	for _, text := range []string{"", "a*", "b", `\(a*\)\1`, many} {
		checkRefused(t, api.ErrSpace, text, long, 0)
		checkRefused(t, api.ErrSpace, text, long, -1)
		checkRefused(t, api.ErrSpace, text, long, 1026)
	}
}

// The limits.

func TestPlaces(t *testing.T) {
	checkRefused(t, api.ErrArg, `\(a*\)\1`, "aaa", -1)
	checkRows(t, []row{{`\(a*\)\1`, "aaa", 0, "0-2 0-1"}, {`\(a*\)\1`, "aaa", 3, "3-3 3-3"}, {`\(a\)\1`, "aaa", 3, "none"}, {`\(^\)\1`, "aaa", 3, "none"}, {`\(a*\)\1$`, "aaa", 3, "3-3 3-3"}})
	checkRefused(t, api.ErrArg, `\(a*\)\1`, "aaa", 4)
}

func TestASubjectOfMaxSpaceBytes(t *testing.T) {
	half := strings.Repeat("ab", 255) + "cc"
	long := half + half
	checkRows(t, []row{
		{`\(c\)\1`, long, 0, "510-512 510-511"}, {`\(c\)\1`, long, 511, "1022-1024 1022-1023"}, {`\(c\)\1`, long, 1023, "none"}, {`\(c\)\1$`, long, 0, "1022-1024 1022-1023"}, {`\(d*\)\1`, long, 1024, "1024-1024 1024-1024"},
		{`^\(.*cc\)\1`, long, 0, "0-1024 0-512"}, {`\([^c]*c\{2\}\)\1$`, long, 0, "0-1024 0-512"}, {`\(c\)c[ab]*\1c$`, long, 0, "510-1024 510-511"}, {`\(e\)\1`, long, 0, "none"}, {`\(.\)\1`, long, 0, "510-512 510-511"},
	})
	checkRefused(t, api.ErrArg, `\(c\)\1`, long, 1025)
	checkRefused(t, api.ErrArg, `\(c\)\1`, long, -1)
	checkRefused(t, api.ErrSpace, `\(c\)\1`, long+"c", 0)
}

func TestTextsOfMaxRePositions(t *testing.T) {
	as, bs := strings.Repeat("a", 254), strings.Repeat("b", 254)
	checkRows(t, []row{
		{strings.Repeat("a", 256), as + as, 1, "1-257"},
		{`\(a\{254\}\)\1b`, as + as, 0, "none"},
		{`\(a\{254\}\)b\1`, "c" + as + "b" + as, 0, "1-510 1-255"},
		{`\(a\{127\}\)\1\(b\{127\}\)\2$`, as + bs, 0, "0-508 0-127 254-381"},
		{`\(.\)\{255\}\1$`, as + "bb", 0, "0-256 254-255"},
		{`\(c\)\{0,1\}` + strings.Repeat("a*", 60) + `\1\{194\}b`, "acc", 0, "none"},
	})
}

// P1 and P2: any texts at all; what is answered twice is the same.
func TestAnyTexts(t *testing.T) {
	chance := rand.New(rand.NewSource(12))
	pieces := []string{`\`, "(", ")", "{", "}", "[", "]", "*", "^", "$", ",", "2", "a", `\(`, `\)`, `\{2\}`, `\1`, `\(.*\)`}
	for range 20000 {
		text := randomText(chance, pieces, 30)
		if chance.Intn(2) == 0 {
			text += string([]byte{byte(chance.Intn(256))})
		}
		subject := randomText(chance, pieces, 12)
		from := chance.Intn(40) - 3
		spans, ok, e := Match(text, subject, from)
		known, fault := measure.Of(text)
		wrong := from < 0 || from > len(subject)
		if fault.E != api.OK && e != fault.E || fault.E == api.OK && (e == api.ErrArg) != wrong || e != api.OK && ok || ok && len(spans) != known.Groups+1 || !ok && len(spans) > 0 {
			t.Fatalf("Match(%q, %q, %d) = %v, %v, %d", text, subject, from, spans, ok, e)
		}
		again, okAgain, f := Match(text, subject, from)
		if !slices.Equal(spans, again) || ok != okAgain || e != f {
			t.Fatalf("Match(%q, %q, %d): told otherwise the second time", text, subject, from)
		}
	}
}

// spoil overwrites a list, and the room behind it.
func spoil(list []api.Span) {
	list = list[:cap(list)]
	for i := range list {
		list[i] = api.Span{From: -7, To: -8}
	}
}

// Memory: a list that is answered is new each time, its spare room too.
func TestListsAreNew(t *testing.T) {
	for _, c := range []struct{ text, subject string }{{"a*", "aaa"}, {"", ""}, {`\(a\)\1*\(b\)*`, "ab"}, {`\(\(\(\(\(\(\(\(\(a\)\)\)\)\)\)\)\)\)\9`, "aa"}} {
		spans, _, _ := Match(c.text, c.subject, 0)
		want := slices.Clone(spans)
		again, _, _ := Match(c.text, c.subject, 0)
		spoil(spans)
		if !slices.Equal(again, want) {
			t.Errorf("%q: lists of two calls share memory", c.text)
		}
		spoil(again)
		if then, _, _ := Match(c.text, c.subject, 0); !slices.Equal(then, want) {
			t.Errorf("%q: what is done to an answer is seen in the next", c.text)
		}
	}
}

// What is handed in is neither changed nor kept: new bytes in the same memory are read anew.
func TestArgumentsAreNotKept(t *testing.T) {
	text, subject := []byte(`\(a*\)\1b`), []byte("aaab")
	textView, subjectView := unsafe.String(&text[0], len(text)), unsafe.String(&subject[0], len(subject))
	spans, _, _ := Match(textView, subjectView, 0)
	want := []api.Span{{From: 1, To: 4}, {From: 1, To: 2}}
	if !slices.Equal(spans, want) || string(text) != `\(a*\)\1b` || string(subject) != "aaab" {
		t.Fatalf("Match = %v, of %q and %q", spans, text, subject)
	}
	copy(text, `b\(a*\)\1`)
	copy(subject, "baaa")
	if then, ok, e := Match(textView, subjectView, 0); !slices.Equal(then, []api.Span{{From: 0, To: 3}, {From: 1, To: 2}}) || !ok || e != api.OK || !slices.Equal(spans, want) {
		t.Errorf("Match = %v, %v, %d, the earlier list %v", then, ok, e, spans)
	}
}

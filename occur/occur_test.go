package occur

import (
	"iter"
	"slices"
	"strings"
	"testing"
	"unsafe"

	"runnel/api"
	"runnel/matcher"
)

// span answers a piece.
func span(from, to int) api.Span {
	return api.Span{From: from, To: to}
}

// wholes answers the spans 0 of occurrences.
func wholes(list [][]api.Span) []api.Span {
	var all []api.Span
	for _, spans := range list {
		all = append(all, spans[0])
	}
	return all
}

// same tells whether two lists have the same spans.
func same(a, b [][]api.Span) bool {
	return slices.EqualFunc(a, b, slices.Equal[[]api.Span])
}

// read answers the matcher of a BRE that has no fault.
func read(t *testing.T, text string) *matcher.Matcher {
	t.Helper()
	m, fault := matcher.New(text)
	if fault.E != api.OK {
		t.Fatalf("New(%q): %v", text, fault)
	}
	return m
}

// told is all that an iterator tells: the occurrences, and the error that ends them. Something told behind an error, or spans beside it, is a failure.
func told(t *testing.T, all iter.Seq2[[]api.Span, api.Errno]) ([][]api.Span, api.Errno) {
	t.Helper()
	var list [][]api.Span
	last := api.OK
	for spans, e := range all {
		if last != api.OK {
			t.Fatalf("behind the error %d there is %v, %d", last, spans, e)
		}
		last = e
		if e == api.OK {
			list = append(list, spans)
		} else if len(spans) != 0 {
			t.Fatalf("beside the error %d there is %v", e, spans)
		}
	}
	return list, last
}

// checkWholes holds List and All against the spans 0 of all occurrences.
func checkWholes(t *testing.T, text, subject string, want ...api.Span) {
	t.Helper()
	list, e := List(text, subject, 9999)
	if !slices.Equal(wholes(list), want) || e != api.OK {
		t.Errorf("List(%q, %q) = %v, %d, want %v", text, subject, list, e, want)
	}
	all, e := told(t, All(read(t, text), subject))
	if !same(all, list) || e != api.OK {
		t.Errorf("All(%q, %q) = %v, %d, but List %v", text, subject, all, e, list)
	}
}

// checkRefused holds List against an error, with nothing beside it.
func checkRefused(t *testing.T, want api.Errno, text, subject string, most int) {
	t.Helper()
	if list, e := List(text, subject, most); e != want || len(list) != 0 {
		t.Errorf("List(%q, %d bytes, %d) = %v, %d, want %d", text, len(subject), most, list, e, want)
	}
}

func TestTheChaptersExamples(t *testing.T) {
	checkWholes(t, "x*", "axb", span(0, 0), span(1, 2), span(3, 3))
	checkWholes(t, "a*", "baac", span(0, 0), span(1, 3), span(4, 4))
	checkWholes(t, "", "ab", span(0, 0), span(1, 1), span(2, 2))
	checkWholes(t, "^a", "aa", span(0, 1))
	for most, want := range map[int][]api.Span{0: nil, 1: {span(0, 1)}, 2: {span(0, 1), span(2, 3)}} {
		if list, e := List("a", "aXa", most); !slices.Equal(wholes(list), want) || e != api.OK {
			t.Errorf("List(a, aXa, %d) = %v, %d", most, list, e)
		}
	}
	if list, e := List("a", "a", 0); len(list) != 0 || e != api.OK {
		t.Errorf("List(a, a, 0) = %v, %d", list, e)
	}
	checkRefused(t, api.ErrArg, "a", "a", -1)
}

func TestEmptyMatches(t *testing.T) {
	// Where the occurrence ahead has ended an empty match is none; a byte further it is.
	checkWholes(t, "a*", "aab", span(0, 2), span(3, 3))
	checkWholes(t, "a*", "aabb", span(0, 2), span(3, 3), span(4, 4))
	checkWholes(t, "a*", "abab", span(0, 1), span(2, 3), span(4, 4))
	checkWholes(t, "a*", "baa", span(0, 0), span(1, 3))
	checkWholes(t, "a*", "aa", span(0, 2))
	checkWholes(t, "a*", "", span(0, 0))
	checkWholes(t, "", "", span(0, 0))
	checkWholes(t, "a", "")
	// What is no occurrence may hide one that would begin there: it begins one further.
	checkWholes(t, `a\{0,1\}`, "aaa", span(0, 1), span(1, 2), span(2, 3))
	checkWholes(t, `\(ab\)*`, "ababbab", span(0, 4), span(5, 7))
	checkWholes(t, `\(ab\)*`, "abaab", span(0, 2), span(3, 5))
	// With back-references it is the same.
	checkWholes(t, `\(a*\)\1`, "aaab", span(0, 2), span(3, 3), span(4, 4))
	checkWholes(t, `\(b*\)\1`, "abba", span(0, 0), span(1, 3), span(4, 4))
	checkWholes(t, `\(\)\1`, "ab", span(0, 0), span(1, 1), span(2, 2))
}

func TestAnchors(t *testing.T) {
	checkWholes(t, "^", "ab", span(0, 0))
	checkWholes(t, "^", "", span(0, 0))
	checkWholes(t, "^a*", "aab", span(0, 2))
	checkWholes(t, "^a*", "baa", span(0, 0))
	checkWholes(t, "$", "ab", span(2, 2))
	checkWholes(t, "$", "", span(0, 0))
	checkWholes(t, "a$", "aa", span(1, 2))
	checkWholes(t, "a*$", "baa", span(1, 3))
	checkWholes(t, "a*$", "aab", span(3, 3))
	checkWholes(t, "^$", "", span(0, 0))
	checkWholes(t, "^$", "a")
	checkWholes(t, `\(^a\)*b`, "abb", span(0, 2), span(2, 3))
	checkWholes(t, `\(^.\)\1`, "aaaa", span(0, 2))
	checkWholes(t, `\(^\)*.`, "ab", span(0, 1), span(1, 2))
	// A newline is a byte like others.
	checkWholes(t, "^a", "a\na", span(0, 1))
	checkWholes(t, "a$", "a\na", span(2, 3))
}

func TestOccurrencesOfGroups(t *testing.T) {
	none := span(-1, -1)
	for _, c := range []struct {
		text, subject string
		want          [][]api.Span
	}{
		{`\(a\)\(b\)*`, "abaxab", [][]api.Span{{span(0, 2), span(0, 1), span(1, 2)}, {span(2, 3), span(2, 3), none}, {span(4, 6), span(4, 5), span(5, 6)}}},
		{`\(.\)\1`, "aabbccd", [][]api.Span{{span(0, 2), span(0, 1)}, {span(2, 4), span(2, 3)}, {span(4, 6), span(4, 5)}}},
		{`\(a*\)b\1`, "abaabaab", [][]api.Span{{span(0, 3), span(0, 1)}, {span(3, 6), span(3, 4)}, {span(7, 8), span(7, 7)}}},
	} {
		list, e := List(c.text, c.subject, 9)
		if !same(list, c.want) || e != api.OK {
			t.Errorf("List(%q, %q) = %v, %d, want %v", c.text, c.subject, list, e, c.want)
		}
	}
}

// All again and again, and left early.

func TestAllIsRangedOverAgain(t *testing.T) {
	for _, c := range []struct{ text, subject string }{{"a", "aXaXa"}, {"a*", "baacab"}, {"", "abc"}, {"b", "a"}, {`\(.\)\1`, "aabbcc"}, {`\(a*\)*\(b\)\2`, "bbcbb" + strings.Repeat("a", 20)}} {
		m := read(t, c.text)
		all := All(m, c.subject)
		want, wantE := told(t, all)
		for range 3 {
			if again, e := told(t, all); !same(again, want) || e != wantE {
				t.Errorf("%q: %v, %d, then %v, %d", c.text, want, wantE, again, e)
			}
		}
		for most := range len(want) {
			checkLeft(t, m, all, want[:most+1])
			if again, e := told(t, all); !same(again, want) || e != wantE {
				t.Errorf("%q: %v, %d behind a range that was left", c.text, again, e)
			}
		}
	}
}

// checkLeft leaves a range behind some occurrences, and sees that nothing is looked for behind them.
func checkLeft(t *testing.T, m *matcher.Matcher, all iter.Seq2[[]api.Span, api.Errno], want [][]api.Span) {
	t.Helper()
	var list [][]api.Span
	steps := 0
	for spans, e := range all {
		if e != api.OK {
			t.Fatalf("%q: the error %d", m.Text(), e)
		}
		list = append(list, spans)
		steps = m.Steps()
		if len(list) == len(want) {
			break
		}
	}
	if !same(list, want) || m.Steps() != steps {
		t.Errorf("%q: left behind %v, want %v; %d steps, then %d", m.Text(), list, want, steps, m.Steps())
	}
}

// Two ranges over one iterator, and ranges within ranges, don't disturb one another.
func TestRangesAtTheSameTime(t *testing.T) {
	all := All(read(t, "a*"), "baacab")
	want, _ := told(t, all)
	var list [][]api.Span
	for spans := range all {
		list = append(list, spans)
		if inner, e := told(t, all); !same(inner, want) || e != api.OK {
			t.Errorf("%v, %d within a range", inner, e)
		}
	}
	if !same(list, want) {
		t.Errorf("%v around ranges, want %v", list, want)
	}
	next, stop := iter.Pull2(all)
	first, _, _ := next()
	other, stopOther := iter.Pull2(all)
	again, _, _ := other()
	stopOther()
	second, _, _ := next()
	stop()
	if _, _, more := next(); more || !same([][]api.Span{first, again, second}, [][]api.Span{want[0], want[0], want[1]}) {
		t.Errorf("pulled %v, %v, %v, more %v", first, again, second, more)
	}
}

// Nothing is looked for until there is a range.
func TestAllAloneDoesNothing(t *testing.T) {
	m := read(t, "a")
	All(m, "aaa")
	if m.Steps() != 0 {
		t.Errorf("%d steps", m.Steps())
	}
}

// Errors.

// many is a BRE that has too many ways at a run of twenty a.
const many = `\(a*\)*\(b\)\2`

// run answers a subject of so many occurrences of many, and behind them a place with too many ways.
func run(count int) string {
	return strings.Repeat("abbc", count) + strings.Repeat("a", 20) + "bb"
}

func TestAnErrorIsTheLastThing(t *testing.T) {
	long := strings.Repeat("a", 1025)
	for _, c := range []struct {
		m       *matcher.Matcher
		subject string
		ahead   int
		want    api.Errno
	}{
		{nil, "", 0, api.ErrState}, {nil, "a", 0, api.ErrState}, {nil, long, 0, api.ErrState}, {read(t, "a"), long, 0, api.ErrSpace}, {read(t, ""), long, 0, api.ErrSpace}, {read(t, `\(a*\)\1`), long, 0, api.ErrSpace}, {read(t, many), long, 0, api.ErrSpace},
		{read(t, many), run(0), 0, api.ErrWays}, {read(t, many), run(1), 1, api.ErrWays}, {read(t, many), run(2), 2, api.ErrWays}, {read(t, many), run(7), 7, api.ErrWays},
	} {
		all := All(c.m, c.subject)
		for range 2 {
			if list, e := told(t, all); len(list) != c.ahead || e != c.want {
				t.Errorf("%q: %v, %d, want %d of them, %d", c.m.Text(), list, e, c.ahead, c.want)
			}
		}
		// The range may be left at the error, too.
		count := 0
		for _, e := range all {
			count++
			if e != api.OK {
				break
			}
		}
		if count != c.ahead+1 {
			t.Errorf("%q: %d things told, want %d", c.m.Text(), count, c.ahead+1)
		}
	}
}

// An error behind the most-th occurrence is not told; ahead of it it is, and there is no list beside it.
func TestAnErrorAheadOfTheMostth(t *testing.T) {
	for count := range 5 {
		subject := run(count)
		for most := range count + 1 {
			if list, e := List(many, subject, most); len(list) != most || e != api.OK {
				t.Errorf("List(%d, %d) = %v, %d", count, most, list, e)
			}
		}
		checkRefused(t, api.ErrWays, many, subject, count+1)
		checkRefused(t, api.ErrWays, many, subject, count+2)
		checkRefused(t, api.ErrWays, many, subject, 1<<63-1)
	}
	// Of no occurrences none has an error ahead of it.
	for _, text := range []string{"a", "", many} {
		if list, e := List(text, strings.Repeat("a", 1025), 0); len(list) != 0 || e != api.OK {
			t.Errorf("List(%q, 1025 bytes, 0) = %v, %d", text, list, e)
		}
	}
}

func TestMost(t *testing.T) {
	for _, c := range []struct{ text, subject string }{{"a", "aXaXa"}, {"a*", "baacab"}, {"", "abc"}, {"", ""}, {"b", "a"}, {`\(.\)\1`, "aabbcc"}, {`\(a*\)\1`, "aaabaa"}} {
		all, _ := told(t, All(read(t, c.text), c.subject))
		for _, most := range []int{0, 1, 2, max(len(all)-1, 0), len(all), len(all) + 1, len(all) + 2, 1 << 40, 1<<63 - 1} {
			list, e := List(c.text, c.subject, most)
			if !same(list, all[:min(most, len(all))]) || e != api.OK {
				t.Errorf("List(%q, %q, %d) = %v, %d, want the first of %v", c.text, c.subject, most, list, e, all)
			}
		}
		for _, most := range []int{-1, -2, -1 << 63} {
			checkRefused(t, api.ErrArg, c.text, c.subject, most)
		}
	}
}

// faulty has texts with each error of matcher.New.
func faulty() map[api.Errno][]string {
	return map[api.Errno][]string{
		api.ErrLong:   {strings.Repeat("^", 513), "a*" + strings.Repeat(`\`, 511)},
		api.ErrEnd:    {`a*\`, `[`, `a*[^`},
		api.ErrClass:  {`[[:Digit:]]*`},
		api.ErrRange:  {`[z-a]*`},
		api.ErrRepeat: {`\{1\}`, `a\{2,1\}`, `a\{256\}`, `a*\}`},
		api.ErrFull:   {strings.Repeat(`\(\)`, 10)},
		api.ErrParen:  {`\(a*`, `a*\)`, `\(a\)\1\(`},
		api.ErrBack:   {`\1`, `\(a\1\)*`, `\(a\)\2`},
		api.ErrEscape: {`\w*`, `a*\0`},
		api.ErrTooBig: {strings.Repeat("a", 257), `a\{255\}bc`, `\(a\)\1\{255\}b`},
	}
}

func TestEachErrorAlone(t *testing.T) {
	for want, texts := range faulty() {
		for _, text := range texts {
			for _, most := range []int{0, 1, 9} {
				checkRefused(t, want, text, "aa", most)
				checkRefused(t, want, text, "", most)
			}
		}
	}
	for _, text := range []string{"", "a*", "^", "b", `\(a*\)\1`, `\(b\)\1`} {
		checkRefused(t, api.ErrArg, text, "aa", -1)
		checkRefused(t, api.ErrArg, text, "", -1)
		checkRefused(t, api.ErrSpace, text, strings.Repeat("a", 1025), 1)
		checkRefused(t, api.ErrSpace, text, strings.Repeat("a", 5000), 9)
	}
	checkRefused(t, api.ErrWays, `\(a*\)*\1`, strings.Repeat("a", 1024), 1)
}

// Two errors at a time: the one that the chapter names first is the answer.
func TestTwoErrorsAtATime(t *testing.T) {
	long := strings.Repeat("a", 1025)
	for want, texts := range faulty() {
		for _, text := range texts {
			checkRefused(t, want, text, "a", -1)
			checkRefused(t, want, text, long, 1)
			checkRefused(t, want, text, long, -1)
		}
	}
	for _, text := range []string{"", "a*", "b", `\(a*\)\1`, many} {
		checkRefused(t, api.ErrArg, text, long, -1)
		checkRefused(t, api.ErrSpace, text, long, 1)
	}
	checkRefused(t, api.ErrArg, many, run(0), -1)
	checkRefused(t, api.ErrParen, many+`\(`, run(0), 1)
	// A nil matcher, and a subject that is too long.
	if list, e := told(t, All(nil, long)); len(list) != 0 || e != api.ErrState {
		t.Errorf("All(nil) = %v, %d", list, e)
	}
}

// The limits.

func TestASubjectOfMaxSpaceBytes(t *testing.T) {
	long := strings.Repeat("ab", 512)
	for _, c := range []struct {
		text  string
		count int
		last  api.Span
	}{
		{"a", 512, span(1022, 1023)}, {"b", 512, span(1023, 1024)}, {".", 1024, span(1023, 1024)}, {"", 1025, span(1024, 1024)}, {"c*", 1025, span(1024, 1024)}, {"a*", 1024 - 512 + 1, span(1024, 1024)}, {".*", 1, span(0, 1024)}, {`\(ab\)*`, 1, span(0, 1024)},
		{`\(.\).\1`, 341, span(1020, 1023)}, {`\(..\)\1`, 256, span(1020, 1024)}, {`\(c*\)\1`, 1025, span(1024, 1024)}, {`.\{255\}`, 4, span(765, 1020)},
	} {
		list, e := List(c.text, long, 1025)
		if e != api.OK || len(list) != c.count || list[len(list)-1][0] != c.last {
			t.Errorf("List(%q) = %d of them, %d, want %d, the last %v", c.text, len(list), e, c.count, c.last)
		}
		checkRefused(t, api.ErrSpace, c.text, long+"a", 1025)
	}
}

// Memory.

// spoil overwrites a list, and the room behind it.
func spoil(list []api.Span) {
	list = list[:cap(list)]
	for i := range list {
		list[i] = span(-7, -8)
	}
}

// spoilAll does so to a list of lists.
func spoilAll(list [][]api.Span) {
	for _, spans := range list {
		spoil(spans)
	}
	list = list[:cap(list)]
	for i := range list {
		list[i] = nil
	}
}

// copied answers a list of lists in memory of its own.
func copied(list [][]api.Span) [][]api.Span {
	list = slices.Clone(list)
	for i := range list {
		list[i] = slices.Clone(list[i])
	}
	return list
}

func TestListsAreNew(t *testing.T) {
	for _, c := range []struct{ text, subject string }{{"a*", "aabab"}, {"", "ab"}, {`\(a\)*\(b\)*`, "abxab"}, {`\(a\)\1*\(b\)*`, "abxaab"}} {
		list, _ := List(c.text, c.subject, 9)
		want := copied(list)
		again, _ := List(c.text, c.subject, 9)
		for i := range list {
			spoil(list[i])
			for k := i + 1; k < len(list); k++ {
				if !slices.Equal(list[k], want[k]) {
					t.Fatalf("%q: lists of one answer share memory", c.text)
				}
			}
		}
		spoilAll(list)
		if len(want) < 2 || !same(again, want) {
			t.Errorf("%q: lists of two calls share memory", c.text)
		}
		spoilAll(again)
		if then, _ := List(c.text, c.subject, 9); !same(then, want) {
			t.Errorf("%q: what is done to an answer is seen in the next", c.text)
		}
	}
}

// What is done to spans that were given is not seen in those that come, nor in where they are looked for.
func TestSpansThatAreGivenMayBeOverwritten(t *testing.T) {
	for _, c := range []struct{ text, subject string }{{"a*", "aababb"}, {"", "abc"}, {`\(a\)*\(b\)*`, "abxab"}, {`\(.\)\1`, "aabbcc"}} {
		all := All(read(t, c.text), c.subject)
		want, _ := told(t, all)
		var list [][]api.Span
		for spans := range all {
			list = append(list, slices.Clone(spans))
			spoil(spans)
			if len(list) > len(want) {
				break
			}
		}
		if !same(list, want) {
			t.Errorf("%q: %v with spans overwritten, want %v", c.text, list, want)
		}
	}
}

// What is handed to List is neither changed nor kept.
func TestArgumentsAreNotKept(t *testing.T) {
	text, subject := []byte(`\(a\)*b`), []byte("aabb")
	textView, subjectView := unsafe.String(&text[0], len(text)), unsafe.String(&subject[0], len(subject))
	list, e := List(textView, subjectView, 9)
	want := [][]api.Span{{span(0, 3), span(1, 2)}, {span(3, 4), span(-1, -1)}}
	if !same(list, want) || e != api.OK || string(text) != `\(a\)*b` || string(subject) != "aabb" {
		t.Fatalf("List = %v, %d, of %q and %q", list, e, text, subject)
	}
	copy(text, `b\(a\)*`)
	copy(subject, "baab")
	then, e := List(textView, subjectView, 9)
	if !same(then, [][]api.Span{{span(0, 3), span(2, 3)}, {span(3, 4), span(-1, -1)}}) || e != api.OK || !same(list, want) {
		t.Errorf("List = %v, %d, the earlier list %v", then, e, list)
	}
}

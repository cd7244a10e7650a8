package subst

import (
	"slices"
	"strings"
	"testing"
	"unsafe"

	"runnel/api"
	"runnel/matcher"
	"runnel/occur"
	"runnel/template"
)

// plain answers a part of bytes.
func plain(text string) api.Part {
	return api.Part{Group: -1, Text: text}
}

// group answers a group's part.
func group(number int) api.Part {
	return api.Part{Group: number}
}

// read answers the matcher of a BRE that has no fault.
func read(t *testing.T, text string) *matcher.Matcher {
	t.Helper()
	m, fault := matcher.New(text)
	if fault.E != api.OK {
		t.Fatalf("New(%q): %v", text, fault)
	}
	return m
}

// replacement answers the parts of a replacement that has no fault.
func replacement(t *testing.T, text string) []api.Part {
	t.Helper()
	parts, fault := template.Parse(text)
	if fault.E != api.OK {
		t.Fatalf("Parse(%q): %v", text, fault)
	}
	return parts
}

// check holds Do against a text and a count.
func check(t *testing.T, text, put string, nth int, all bool, subject, want string, count int) {
	t.Helper()
	got, n, e := Do(read(t, text), replacement(t, put), nth, all, subject)
	if got != want || n != count || e != api.OK {
		t.Errorf("Do(%q, %q, %d, %v, %q) = %q, %d, %d, want %q, %d", text, put, nth, all, subject, got, n, e, want, count)
	}
}

// checkRefused holds Do against an error, with nothing beside it.
func checkRefused(t *testing.T, want api.Errno, m *matcher.Matcher, parts []api.Part, nth int, all bool, subject string) {
	t.Helper()
	if text, n, e := Do(m, parts, nth, all, subject); text != "" || n != 0 || e != want {
		t.Errorf("Do(%q, %d parts, %d, %v, %d bytes) = %.40q, %d, %d, want %d", m.Text(), len(parts), nth, all, len(subject), text, n, e, want)
	}
}

func TestTheChaptersExamples(t *testing.T) {
	check(t, "a", "b", 1, true, "banana", "bbnbnb", 3)
	check(t, "a", "b", 2, false, "banana", "banbna", 1)
	check(t, "a", "b", 2, true, "banana", "banbnb", 2)
	check(t, "a", "b", 9, false, "banana", "banana", 0)
	check(t, "a", "b", 9, true, "banana", "banana", 0)
	checkRefused(t, api.ErrArg, read(t, "a"), []api.Part{plain("b")}, 0, false, "banana")
	check(t, "x*", "-", 1, true, "abxc", "-a-b-c-", 4)
	check(t, `\(a\)\(b\)`, `\2\1`, 1, false, "abab", "baab", 1)
}

// nth of 1, the number of occurrences, one more, and MaxCount, and what lies beyond.
func TestNth(t *testing.T) {
	check(t, "a", "b", 1, false, "banana", "bbnana", 1)
	check(t, "a", "b", 3, false, "banana", "bananb", 1)
	check(t, "a", "b", 3, true, "banana", "bananb", 1)
	check(t, "a", "b", 4, false, "banana", "banana", 0)
	check(t, "a", "b", 4, true, "banana", "banana", 0)
	check(t, "a", "b", 512, false, "banana", "banana", 0)
	check(t, "a", "b", 512, true, "banana", "banana", 0)
	check(t, "a", "b", 512, false, strings.Repeat("a", 512), strings.Repeat("a", 511)+"b", 1)
	check(t, "a", "b", 512, true, strings.Repeat("a", 512), strings.Repeat("a", 511)+"b", 1)
	check(t, "a", "b", 512, false, strings.Repeat("a", 511), strings.Repeat("a", 511), 0)
	check(t, "a", "b", 512, false, strings.Repeat("a", 1024), strings.Repeat("a", 511)+"b"+strings.Repeat("a", 512), 1)
	check(t, "a", "b", 512, true, strings.Repeat("a", 1024), strings.Repeat("a", 511)+strings.Repeat("b", 513), 513)
	for _, nth := range []int{0, -1, -2, 513, 514, 512 + 1<<32, 1 + 1<<32, 1<<63 - 1, -1 << 63} {
		for _, all := range []bool{false, true} {
			checkRefused(t, api.ErrArg, read(t, "a"), nil, nth, all, "banana")
			checkRefused(t, api.ErrArg, read(t, "x"), nil, nth, all, "banana")
			checkRefused(t, api.ErrArg, read(t, `\(a\)\1`), nil, nth, all, strings.Repeat("a", 1024))
			checkRefused(t, api.ErrArg, read(t, ""), nil, nth, all, "")
		}
	}
}

func TestEmptyOccurrences(t *testing.T) {
	check(t, "", "-", 1, true, "", "-", 1)
	check(t, "", "-", 2, true, "", "", 0)
	check(t, "", "-", 1, true, "ab", "-a-b-", 3)
	check(t, "", "-", 1, false, "ab", "-ab", 1)
	check(t, "", "-", 2, false, "ab", "a-b", 1)
	check(t, "", "-", 3, false, "ab", "ab-", 1)
	check(t, "", "-", 2, true, "ab", "a-b-", 2)
	check(t, "", "", 1, true, "ab", "ab", 3)
	check(t, "x*", "-", 2, true, "abxc", "a-b-c-", 3)
	check(t, "x*", "-", 3, false, "abxc", "ab-c", 1)
	check(t, "a*", "<&>", 1, true, "baac", "<>b<aa>c<>", 3)
	check(t, "a*", "<&>", 1, true, "baa", "<>b<aa>", 2)
	check(t, `\(a*\)\1`, `<&,\1>`, 1, true, "aaab", "<aa,a>a<,>b<,>", 3)
	check(t, "^", ">", 1, true, "ab", ">ab", 1)
	check(t, "$", "<", 1, true, "ab", "ab<", 1)
	check(t, "^", ">", 2, true, "ab", "ab", 0)
}

// At the subject's ends, and next to one another.
func TestWhereOccurrencesLie(t *testing.T) {
	check(t, "a", "xy", 1, true, "aaa", "xyxyxy", 3)
	check(t, "a", "xy", 2, true, "aaa", "axyxy", 2)
	check(t, "a", "xy", 2, false, "aaa", "axya", 1)
	check(t, "a", "xy", 3, false, "aaa", "aaxy", 1)
	check(t, "a", "", 1, true, "aaa", "", 3)
	check(t, "a", "", 1, true, "abaca", "bc", 3)
	check(t, "a", "", 2, true, "abaca", "abc", 2)
	check(t, "a$", "b", 1, true, "aa", "ab", 1)
	check(t, "^a", "b", 1, true, "aa", "ba", 1)
	check(t, ".*", "[&]", 1, true, "abc", "[abc]", 1)
	check(t, "a", "b", 1, true, "", "", 0)
	check(t, "a", "b", 1, false, "xyz", "xyz", 0)
	// What was put in is not looked through again.
	check(t, "a", "aa", 1, true, "aba", "aabaa", 2)
	check(t, "ab", "a", 1, true, "abb", "ab", 1)
	// A newline is a byte like others, and what is put in may have one.
	check(t, "b", `\n`, 1, true, "abc\nb", "a\nc\n\n", 2)
	check(t, "\xff", "é", 1, true, "\xff\xfe", "é\xfe", 1)
}

func TestGroups(t *testing.T) {
	check(t, `\(.*\)x\(.*\)`, `\2,\1`, 1, false, "1x2x3", "3,1x2", 1)
	check(t, `\(a\)\(b\)`, `\2\1`, 1, true, "abab", "baba", 2)
	check(t, `\(a\)\(b\)`, `\2\1`, 2, false, "ababab", "abbaab", 1)
	// Groups that took no part, that the BRE doesn't have, and that have matched the empty text.
	check(t, `\(a\)*\(b\)*c`, `<\1\2&>`, 1, true, "abccbcac", "<ababc><c><bbc><aac>", 4)
	check(t, `a`, `<\1\9&\0>`, 1, true, "ba", "b<aa>", 1)
	check(t, `\(\)a\(x*\)`, `<\1\2>`, 1, true, "aax", "<><x>", 2)
	check(t, `\(.\)\1`, `\1`, 1, true, "aabbcd", "abcd", 2)
	check(t, `\(\(.\)\2\)`, `[\1=\2\2]`, 1, true, "aabc", "[aa=aa]bc", 1)
	// Groups that are above nine are as those that there are not; a Text beside a group isn't put in.
	text, n, e := Do(read(t, "a"), []api.Part{plain("<"), group(10), group(1<<63 - 1), {Group: 0, Text: "no"}, plain(">")}, 1, true, "aba")
	if text != "<a>b<a>" || n != 2 || e != api.OK {
		t.Errorf("Do = %q, %d, %d", text, n, e)
	}
	// No parts: nothing is put in.
	text, n, e = Do(read(t, "a"), nil, 1, true, "aba")
	if text != "b" || n != 2 || e != api.OK {
		t.Errorf("Do of no parts = %q, %d, %d", text, n, e)
	}
}

// The course: what is looked for, and what is told of it.

// many is a BRE that has too many ways at a run of twenty a.
const many = `\(a*\)*\(b\)\2`

// run answers a subject of so many occurrences of many, and behind them a place with too many ways.
func run(count int) string {
	return strings.Repeat("abbc", count) + strings.Repeat("a", 20) + "bb"
}

// An error behind the last one that is to be exchanged isn't told; one ahead of it is, even if others were exchanged ahead of it.
func TestAnErrorBehindTheLastOne(t *testing.T) {
	put := []api.Part{plain("-")}
	for count := range 4 {
		subject := run(count)
		for nth := 1; nth <= count; nth++ {
			want := strings.Repeat("abbc", nth-1) + "-c" + subject[nth*4:]
			text, n, e := Do(read(t, many), put, nth, false, subject)
			if text != want || n != 1 || e != api.OK {
				t.Errorf("Do(%d of %q) = %q, %d, %d, want %q", nth, subject, text, n, e, want)
			}
			checkRefused(t, api.ErrWays, read(t, many), put, nth, true, subject)
		}
		for _, nth := range []int{count + 1, count + 2, 512} {
			checkRefused(t, api.ErrWays, read(t, many), put, nth, false, subject)
			checkRefused(t, api.ErrWays, read(t, many), put, nth, true, subject)
		}
	}
}

// stepsOf answers the steps of looking for the first occurrences alone.
func stepsOf(t *testing.T, text, subject string, most int) int {
	t.Helper()
	m := read(t, text)
	count := 0
	for range occur.All(m, subject) {
		count++
		if count == most {
			break
		}
	}
	return m.Steps()
}

// Behind the last one no further occurrence is looked for; ahead of it no one is left out.
func TestNoFurtherOccurrenceIsLookedFor(t *testing.T) {
	for _, c := range []struct{ text, subject string }{{"a", "aXaXaXaX"}, {"a*", "aaXaaXbaX"}, {`\(a\)\1`, "aaXaaXaaXXX"}, {"X", "aaXaaX"}, {"a*X", "aXaaXbaX"}} {
		whole := stepsOf(t, c.text, c.subject, 1000)
		for nth := 1; nth <= 6; nth++ {
			m := read(t, c.text)
			Do(m, nil, nth, false, c.subject)
			if want := stepsOf(t, c.text, c.subject, nth); m.Steps() != want {
				t.Errorf("%q in %q: the number %d took %d steps, want %d", c.text, c.subject, nth, m.Steps(), want)
			}
			m = read(t, c.text)
			Do(m, nil, nth, true, c.subject)
			if m.Steps() != whole {
				t.Errorf("%q in %q: all from %d on took %d steps, want %d", c.text, c.subject, nth, m.Steps(), whole)
			}
		}
		if first := stepsOf(t, c.text, c.subject, 1); first >= whole {
			t.Errorf("%q in %q: %d steps of the first, %d of all", c.text, c.subject, first, whole)
		}
	}
}

// What is refused ends the course: nothing is looked for behind it either.
func TestAnErrorEndsTheCourse(t *testing.T) {
	const text, subject = "a", "XaXaXa"
	for number := 1; number <= 3; number++ {
		for _, parts := range [][]api.Part{{group(-2)}, {plain(strings.Repeat("x", 1025))}, {plain(strings.Repeat("x", 1024))}} {
			for _, all := range []bool{false, true} {
				m := read(t, text)
				if _, _, e := Do(m, parts, number, all, subject); e == api.OK {
					t.Errorf("the number %d was exchanged for %d bytes", number, len(parts[0].Text))
				}
				if want := stepsOf(t, text, subject, number); m.Steps() != want {
					t.Errorf("refused at the number %d behind %d steps, want %d", number, m.Steps(), want)
				}
			}
		}
	}
	m := read(t, text)
	checkRefused(t, api.ErrArg, m, nil, 0, true, subject)
	checkRefused(t, api.ErrArg, m, nil, 513, true, subject)
	if m.Steps() != 0 {
		t.Errorf("%d steps with an nth that is none", m.Steps())
	}
}

// Parts that can't be built are no error where nothing is exchanged.
func TestPartsThatAreNotBuilt(t *testing.T) {
	for _, parts := range [][]api.Part{{group(-2)}, {plain(strings.Repeat("x", 1025))}, {group(-1 << 63), plain("a")}} {
		for _, all := range []bool{false, true} {
			for _, c := range []struct {
				text string
				nth  int
			}{{"x", 1}, {"a", 4}, {"a", 512}, {"^b", 2}} {
				text, n, e := Do(read(t, c.text), parts, c.nth, all, "banana")
				if text != "banana" || n != 0 || e != api.OK {
					t.Errorf("Do(%q, %d) = %q, %d, %d", c.text, c.nth, text, n, e)
				}
			}
			if _, _, e := Do(read(t, "a"), parts, 3, all, "banana"); e == api.OK {
				t.Errorf("the third a was exchanged for %v", parts)
			}
		}
	}
}

// The limits.

// In the course: what stands ahead and what was put in its place has MaxSpace bytes, or one more; what comes behind isn't looked at.
func TestSpaceInTheCourse(t *testing.T) {
	behind := run(0)
	for ahead := range 4 {
		subject := strings.Repeat("x", ahead) + "bb" + behind
		most := strings.Repeat("p", 1024-ahead)
		// With one more ErrWays is never come to; without it it is.
		checkRefused(t, api.ErrSpace, read(t, many), []api.Part{plain(most + "p")}, 1, true, subject)
		checkRefused(t, api.ErrWays, read(t, many), []api.Part{plain(most)}, 1, true, subject)
		// If it is the last one, the rest makes it too long.
		checkRefused(t, api.ErrSpace, read(t, many), []api.Part{plain(most)}, 1, false, subject)
	}
	// Of the second one what the first has become stands ahead.
	for _, c := range []struct {
		length int
		want   api.Errno
	}{{511, api.ErrWays}, {512, api.ErrSpace}} {
		put := []api.Part{plain(strings.Repeat("p", c.length))}
		checkRefused(t, c.want, read(t, many), put, 1, true, "xbbxbb"+behind)
		checkRefused(t, api.ErrWays, read(t, many), put, 2, true, "xbbxbb"+behind)
	}
}

func TestSpaceAtTheEnd(t *testing.T) {
	for _, all := range []bool{false, true} {
		for behind := range 4 {
			rest := strings.Repeat("x", behind)
			most := strings.Repeat("p", 1023-behind)
			text, n, e := Do(read(t, "a"), []api.Part{plain(most)}, 1, all, "xa"+rest)
			if text != "x"+most+rest || n != 1 || e != api.OK {
				t.Errorf("Do = %d bytes, %d, %d", len(text), n, e)
			}
			checkRefused(t, api.ErrSpace, read(t, "a"), []api.Part{plain(most + "p")}, 1, all, "xa"+rest)
		}
	}
	// A subject that can't grow.
	most := strings.Repeat("ab", 512)
	for _, all := range []bool{false, true} {
		for _, nth := range []int{1, 2, 512} {
			checkRefused(t, api.ErrSpace, read(t, "a"), []api.Part{plain("xy")}, nth, all, most)
			checkRefused(t, api.ErrSpace, read(t, "b"), []api.Part{plain("xy")}, nth, all, most)
			checkRefused(t, api.ErrSpace, read(t, "b$"), []api.Part{plain("xy")}, 1, all, most)
		}
	}
	check(t, "a", "x", 1, true, most, strings.ReplaceAll(most, "a", "x"), 512)
	check(t, "a", "&", 1, true, most, most, 512)
	check(t, "c", "xyz", 1, true, most, most, 0)
	check(t, "ab", "x", 1, true, most, strings.Repeat("x", 512), 512)
	check(t, ".", "", 1, true, most, "", 1024)
	check(t, "c*", "", 1, true, most, most, 1025)
	check(t, "c*", "-", 1, true, most[:511], "-a"+strings.Repeat("-b-a", 255)+"-", 512)
	checkRefused(t, api.ErrSpace, read(t, "c*"), []api.Part{plain("-")}, 1, true, most[:512])
	check(t, "c*", "-", 512, false, most[:512], most[:511]+"-b", 1)
}

// What has come so far is held against the limit, not what the whole subject would be with the rest as it stands.
func TestSpaceOnTheWay(t *testing.T) {
	first := strings.Repeat("p", 1000)
	subject := first + "XY" + strings.Repeat("q", 22)
	check(t, `[XY]q*`, strings.Repeat("-", 12), 1, true, subject, first+strings.Repeat("-", 24), 2)
	check(t, `\(p*\)XYq*`, `\1-`, 1, true, subject, first+"-", 1)
	// The first one makes it 1,013 bytes, or 1,024, and the second too long.
	checkRefused(t, api.ErrSpace, read(t, `[XY]q*`), []api.Part{plain(strings.Repeat("-", 12)), group(1), plain("=")}, 1, true, subject)
	checkRefused(t, api.ErrSpace, read(t, `[XY]q*`), []api.Part{plain(strings.Repeat("-", 24))}, 1, true, subject)
}

// Errors.

func TestEachErrorAlone(t *testing.T) {
	long := strings.Repeat("a", 1025)
	put := []api.Part{plain("-")}
	for _, all := range []bool{false, true} {
		checkRefused(t, api.ErrState, nil, put, 1, all, "a")
		checkRefused(t, api.ErrState, nil, nil, 512, all, "")
		for _, text := range []string{"a", "", "x", "^", `\(a\)\1`, ".*"} {
			checkRefused(t, api.ErrSpace, read(t, text), put, 1, all, long)
			checkRefused(t, api.ErrSpace, read(t, text), nil, 512, all, long)
		}
		checkRefused(t, api.ErrWays, read(t, many), put, 1, all, run(0))
		checkRefused(t, api.ErrArg, read(t, "a"), []api.Part{group(-2)}, 1, all, "ba")
		checkRefused(t, api.ErrArg, read(t, "a"), []api.Part{plain("a"), {Group: -3, Text: "x"}}, 1, all, "ba")
		checkRefused(t, api.ErrSpace, read(t, "a"), []api.Part{plain(long)}, 1, all, "a")
		checkRefused(t, api.ErrSpace, read(t, ".*"), []api.Part{group(0), group(0)}, 1, all, long[:513])
	}
}

// Two errors at a time: the one that comes first in the course is the answer.
func TestTwoErrorsAtATime(t *testing.T) {
	long := strings.Repeat("a", 1025)
	below, much := []api.Part{group(-2)}, []api.Part{plain(long)}
	for _, all := range []bool{false, true} {
		for _, nth := range []int{0, 513} {
			checkRefused(t, api.ErrArg, nil, much, nth, all, long)
			checkRefused(t, api.ErrArg, nil, nil, nth, all, "a")
			checkRefused(t, api.ErrArg, read(t, "a"), nil, nth, all, long)
			checkRefused(t, api.ErrArg, read(t, many), nil, nth, all, run(0))
			checkRefused(t, api.ErrArg, read(t, "a"), much, nth, all, "a")
		}
		for _, parts := range [][]api.Part{below, much} {
			checkRefused(t, api.ErrState, nil, parts, 1, all, "a")
			checkRefused(t, api.ErrState, nil, parts, 1, all, long)
			checkRefused(t, api.ErrSpace, read(t, "a"), parts, 1, all, long)
			checkRefused(t, api.ErrWays, read(t, many), parts, 1, all, run(0))
			checkRefused(t, api.ErrWays, read(t, many), parts, 2, all, run(1))
		}
		// An error of Build at the first one is ahead of the ways behind it.
		checkRefused(t, api.ErrArg, read(t, many), below, 1, all, run(1))
		checkRefused(t, api.ErrSpace, read(t, many), much, 1, all, run(1))
		// Build's own order, and Build's error ahead of the space so far.
		checkRefused(t, api.ErrSpace, read(t, "a"), append(slices.Clone(much), group(-2)), 1, all, "a")
		checkRefused(t, api.ErrArg, read(t, "a"), append(slices.Clone(below), plain(long)), 1, all, "a")
		checkRefused(t, api.ErrArg, read(t, "a"), []api.Part{plain(long[:100]), group(-2)}, 1, all, strings.Repeat("x", 1000)+"a")
		checkRefused(t, api.ErrArg, read(t, "$"), []api.Part{plain("y"), group(-2)}, 1, all, strings.Repeat("x", 1024))
	}
}

// Memory.

// What is handed in stays as it is, and so does what lies behind it.
func TestPartsStayAsTheyAre(t *testing.T) {
	given := []api.Part{plain("<"), group(1), plain("\\&\n"), {Group: 0, Text: "x"}, group(-7), plain("behind")}
	want := slices.Clone(given)
	for _, text := range []string{`\(a\)*b`, `\(a\)*x`, `\(.\)\1`, ""} {
		for _, subject := range []string{"aabb", "", strings.Repeat("ab", 512), strings.Repeat("a", 1025)} {
			for nth := range 3 {
				Do(read(t, text), given[:4], nth, true, subject)
				Do(read(t, text), given[:4], nth, false, subject)
			}
		}
	}
	if !slices.Equal(given, want) {
		t.Errorf("handed in %v, and now it is %v", want, given)
	}
}

// view answers bytes as a text that changes with them.
func view(bytes []byte) string {
	return unsafe.String(&bytes[0], len(bytes))
}

// What is answered doesn't change with what was handed in.
func TestArgumentsAreNotKept(t *testing.T) {
	for _, c := range []struct{ text, want string }{{"a", "xpqb"}, {"y", "xab"}, {".*", "pq"}} {
		subject, own := []byte("xab"), []byte("pq")
		m := read(t, c.text)
		text, _, e := Do(m, []api.Part{plain(view(own))}, 1, true, view(subject))
		if text != c.want || e != api.OK || string(subject) != "xab" || string(own) != "pq" {
			t.Fatalf("Do = %q, %d, of %q and %q", text, e, subject, own)
		}
		copy(subject, "zay")
		copy(own, "--")
		if text != c.want {
			t.Errorf("%q: the text is %q now", c.text, text)
		}
		// What was told before is not seen in what is told then.
		then, _, e := Do(m, []api.Part{plain("o")}, 1, true, "ay")
		if want := strings.NewReplacer("a", "oy", "y", "ao", ".*", "o").Replace(c.text); then != want || e != api.OK {
			t.Errorf("%q: then Do = %q, %d, want %q", c.text, then, e, want)
		}
	}
}

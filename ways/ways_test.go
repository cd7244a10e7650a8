package ways

import (
	"math/rand"
	"strconv"
	"strings"
	"testing"
	"unsafe"

	"runnel/api"
	"runnel/bre"
	"runnel/measure"
	"runnel/reach"
	"runnel/slow"
)

// check holds Count against a number, and against what holds of every answer: there is a way just where the BRE in which each back-reference is exchanged for .* has an end.
func check(t *testing.T, text, subject string, at, want int) {
	t.Helper()
	count, e := Count(text, subject, at)
	if count != want || e != api.OK {
		t.Fatalf("Count(%q, %q, %d) = %d, %d, want %d", text, subject, at, count, e, want)
	}
	ends, e := reach.Ends(exchanged(text), subject, at)
	if e != api.OK || (count > 0) != (len(ends) > 0) {
		t.Fatalf("Count(%q, %q, %d) = %d, but %q ends at %v, %d", text, subject, at, count, exchanged(text), ends, e)
	}
}

// exchanged answers a BRE with .* for each back-reference.
func exchanged(text string) string {
	var other strings.Builder
	for i := 0; i < len(text); i++ {
		switch {
		case text[i] != '\\':
			other.WriteByte(text[i])
			continue
		case text[i+1] >= '1' && text[i+1] <= '9':
			other.WriteString(".*")
		default:
			other.WriteString(text[i : i+2])
		}
		i++
	}
	return other.String()
}

// row is a BRE, a subject, and the counts at each place.
type row struct{ text, subject, counts string }

func checkRows(t *testing.T, rows []row) {
	t.Helper()
	for _, r := range rows {
		fields := strings.Fields(r.counts)
		if len(fields) != len(r.subject)+1 {
			t.Fatalf("%q, %q: %d counts for %d places", r.text, r.subject, len(fields), len(r.subject)+1)
		}
		for at, field := range fields {
			want, _ := strconv.Atoi(field)
			check(t, r.text, r.subject, at, want)
		}
	}
}

// checkAll holds Count, at every place, against all relaxed derivations written down.
func checkAll(t *testing.T, text, subject string) {
	t.Helper()
	tree, fault := bre.Parse(text)
	known, _ := measure.Of(text)
	if fault.E != api.OK {
		t.Fatalf("%q is no BRE: %v", text, fault)
	}
	for at := range len(subject) + 1 {
		check(t, text, subject, at, slow.Count(tree, known.Groups, subject, at, api.MaxWays))
	}
}

func TestTheChaptersExamples(t *testing.T) {
	check(t, `a*`, "aab", 0, 3)
	check(t, `a*`, "aab", 2, 1)
	check(t, `\(a*\)*`, "aaa", 0, 8)
	check(t, `b`, "a", 0, 0)
	check(t, ``, "a", 0, 1)
	check(t, `\(a*\)\1`, "aa", 0, 6)
	check(t, `\(a*\)*`, strings.Repeat("a", 20), 0, 4097)
}

// P9.1: each kind of a part, at every place.

func TestSetsAndAnchors(t *testing.T) {
	checkRows(t, []row{
		{``, "", "1"}, {``, "ab", "1 1 1"}, {`a`, "", "0"}, {`a`, "aba", "1 0 1 0"}, {`ab`, "abab", "1 0 1 0 0"},
		{`.`, "a\n\x00\xff", "1 1 1 1 0"}, {`[ab]c`, "acbc", "1 0 1 0 0"}, {`[^a]`, "ab\n\xff", "0 1 1 1 0"}, {"[^\x00-\xff]", "ab", "0 0 0"},
		{`^`, "", "1"}, {`$`, "", "1"}, {`^$`, "", "1"}, {`^`, "ab", "1 0 0"}, {`$`, "ab", "0 0 1"}, {`^$`, "a", "0 0"},
		{`^a*`, "aab", "3 0 0 0"}, {`a*$`, "baa", "0 1 1 1"}, {`^b`, "a\nb", "0 0 0 0"}, {`a$`, "a\nb", "0 0 0 0"},
		{`\(^a\)*`, "aa", "2 1 1"}, {`\(a$\)*`, "aa", "1 2 1"}, {`\(^a*\)\{2\}`, "aab", "3 0 0 0"}, {`\(a*$\)\{2\}`, "baa", "0 1 1 1"},
		{`\(^\)\{3\}a`, "aa", "1 0 0"}, {`\(^\)*a`, "aa", "1 1 0"}, {`\(\(^\)\{1,\}a*\)*`, "aa", "3 1 1"},
	})
}

func TestGroups(t *testing.T) {
	checkRows(t, []row{
		{`\(\)`, "a", "1 1"}, {`\(a\)\(b\)`, "ab", "1 0 0"}, {`\(\(a\)b\)`, "ab", "1 0 0"}, {`\(\(\(a*\)\)\)`, "aa", "3 2 1"},
		{`\(a*\)\(a*\)`, "aa", "6 3 1"}, {`\(a*\)\(b*\)`, "aab", "4 3 2 1"}, {`\(.*\)\(.*\)\(.*\)`, "ab", "10 4 1"}, {`\(\(a*\)a*\)`, "aaa", "10 6 3 1"},
	})
}

func TestRepeats(t *testing.T) {
	checkRows(t, []row{
		{`a*`, "aab", "3 2 1 1"}, {`a\{2\}`, "aaa", "1 1 0 0"}, {`a\{1,\}`, "aaa", "3 2 1 0"}, {`a\{2,\}`, "aaaa", "3 2 1 0 0"},
		{`a\{1,2\}`, "aaa", "2 2 1 0"}, {`a\{0,1\}`, "aa", "2 2 1"}, {`a\{0,2\}b`, "aaab", "0 1 1 1 0"},
		{`\(ab\)*`, "abab", "3 1 2 1 1"}, {`\(ab*\)*`, "abab", "5 1 3 1 1"}, {`\(a\{1,2\}\)\{2\}`, "aaaa", "4 3 1 0 0"}, {`\(.\{1,2\}\)*`, "aaaa", "12 7 4 2 1"},
		// Repeats of repeats: of a** the ways are the compositions.
		{`a**`, "aaa", "8 4 2 1"}, {`a***`, "aaa", "14 5 2 1"}, {`a*\{2\}`, "aa", "6 3 1"}, {`a\{2\}*`, "aaaaa", "3 3 2 2 1 1"}, {`a\{1,\}\{1,\}`, "aaa", "7 3 1 0"},
		// An iteration that there must be can match nothing; one that may be can't.
		{`\(\)*`, "a", "1 1"}, {`\(\)\{2\}`, "a", "1 1"}, {`\(\)\{1,\}`, "a", "1 1"}, {`\(a*\)\{0,1\}`, "aa", "3 2 1"}, {`\(a*\)\{1\}`, "aa", "3 2 1"},
		{`\(a*\)\{1,\}`, "a", "3 1"}, {`\(a*\)\{1,\}`, "aa", "7 3 1"}, {`\(a*\)\{2,\}`, "a", "4 1"}, {`\(a*\)\{1,2\}`, "aa", "6 3 1"}, {`\(a*\)\{3\}`, "a", "4 1"},
		// Repeats of no times.
		{`a\{0\}`, "a", "1 1"}, {`\(a*\)\{0,0\}b`, "ab", "0 1 0"}, {`\(a\{0\}b\)*`, "bb", "3 2 1"}, {`\(^a$\)\{0\}`, "ab", "1 1 1"}, {`a*\{0\}*`, "aa", "1 1 1"},
	})
}

// In a way a back-reference matches any piece, whatever its group has matched.
func TestBackReferences(t *testing.T) {
	checkRows(t, []row{
		{`\(a\)\1`, "ab", "2 0 0"}, {`\(\)\1`, "abc", "4 3 2 1"}, {`\(\)\1\1`, "ab", "6 3 1"}, {`\(\)\1$`, "ab", "1 1 1"}, {`\(\)\1b`, "abb", "2 2 1 0"},
		{`\(a\)*\1`, "b", "2 1"}, {`\(a\)\{0\}\1`, "ab", "3 2 1"}, {`\(^\)\1`, "ab", "3 0 0"},
		{`\(\)\1*`, "aaa", "8 4 2 1"}, {`\(\)\1\{0,1\}`, "aa", "3 2 1"}, {`\(\)\1\{1\}`, "aa", "3 2 1"}, {`\(\)\1\{2\}`, "aa", "6 3 1"}, {`\(\)\1\{1,\}`, "a", "3 1"}, {`\(\)\1\{0\}`, "aa", "1 1 1"},
		{`\(\(a\)\2\)*`, "aa", "4 2 1"}, {`\(a\(\)\2\)*`, "aa", "4 2 1"}, {`\(a*\)\1*`, "a", "3 1"}, {`\(.\)\(.\)\2\1`, "abab", "6 3 1 0 0"},
	})
}

// texts answers all texts of up to some bytes of an alphabet.
func texts(alphabet string, longest int) []string {
	all := []string{""}
	for begin := 0; longest > 0; longest-- {
		stop := len(all)
		for _, text := range all[begin:stop] {
			for _, b := range []byte(alphabet) {
				all = append(all, text+string(b))
			}
		}
		begin = stop
	}
	return all
}

// Small BREs on small subjects, at every place, against all relaxed derivations.
func TestSmallBres(t *testing.T) {
	kinds := []string{
		// A set, ^ and $.
		``, `a`, `.`, `[^a]`, `^`, `$`, `^a`, `a$`, `^$`, `^.*$`, `\(^a\)`, `\(a$\)`, `\(^\)a`, `a*\(^b*\)`, `\(^a*\)\{2\}`, `\(a*$\)\{2\}`, `\(a*$\)\{0,1\}b*`, `\(^\)*\(a*\)`, `\(\(^\)\{1,\}a*\)*b*`, `\(\($\)\{0,1\}.*\)\{2\}`,
		// Groups within groups, and side by side.
		`\(\(a\)b\)`, `\(a\(b\)*\)`, `\(\(\(a*\)b*\)a*\)`, `\(a*\)\(b*\)`, `\(a*\)\(ab\)*\(b*\)`, `\(a*\)\(.\)`, `\(.*\)\(.*\)`, `\(a\{0,1\}\)\(ab\{0,1\}\)\(b*\)`, `\(\)a\(\)`, `\(\(\)\(a*\)\)`,
		// Repeats of every form.
		`a*`, `a\{1\}`, `a\{2\}`, `a\{0,1\}`, `.\{1,2\}`, `a\{1,\}`, `.\{2,\}`, `a\{0,\}`, `a\{0,0\}`, `.\{1,2\}.*`, `.*b`, `a\{0,2\}a\{1,2\}`,
		// Repeats of groups.
		`\(ab\)*`, `\(a*b\)*`, `\(ab*\)*`, `\(ab*\)\{2\}`, `\(\(a\)*b\)*`, `\(\(a\)\{0,1\}\(b\)\{0,1\}\)\{2\}`, `\(a\(b\)*\)\{1,3\}`, `\(.\(a\)*\)*`, `\(\(a*\)\(b*\)\)\{1,2\}`, `\(a\{1,2\}\)*`, `\(a\{1,2\}\)\{2\}`,
		// Repeats of repeats.
		`a**`, `a*\{2\}`, `a\{2\}*`, `a\{0,1\}*`, `.\{1,2\}\{2\}`, `.\{0,2\}\{1,\}`, `a\{0,1\}\{2\}`, `\(\(a\)*\)*`, `\(\(a\)\{1,\}\)*b*`, `\(a*\(b\)*\)**`, `.***`, `.\{1,\}\{1,\}*`, `.*\{2,3\}\{1,\}`, `.\{0,1\}\{2\}\{2,\}`,
		// Repeats of what can match nothing.
		`\(\)*`, `\(\)\{2\}`, `\(\)\{1,\}a`, `\(a*\)*`, `\(a*\)*b`, `\(a*\)\{1,\}b`, `\(a*\)\{2\}`, `\(a*\)\{3\}b`, `\(a\{0,1\}\)\{2\}`, `\(.\{0,1\}\)\{1,3\}`, `\(a*b*\)*`, `\(a*b*\)\{2\}`, `\(\(a*\)*\(b*\)*\)*`, `\(\(a*\)\{1,\}b*\)\{2\}`, `\(.*\)\{2,\}`, `\(\(.*\)\{2\}\)\{1,\}`, `\(^*\)*`, `\(\($\)*a*\)*`,
		// Repeats of no times.
		`a\{0\}`, `\(a\)\{0\}b`, `\(\(a\)*b\)\{0\}`, `\(\(a\)\{0\}b\)*`, `a\{0\}*`, `a\{0\}\{2\}b*`, `\(^\)\{0\}a\($\)\{0\}`, `\(\(a\)\2\)\{0\}.`,
		// Back-references ahead of, within and behind repeats.
		`\(a\)\1`, `\(a\)\1b*`, `\(a*\)\1a*`, `\(a*\)\1$`, `^\(a\)\1\1`, `\(a\)\1*`, `\(a\)\1\{2\}`, `\(a\)\1\{0,1\}b`, `\(a\)\1\{1,\}`, `\(.\)\1\{0\}`, `\(.\)\1**`, `\(\(a\)\2\)*`, `\(\(a\)*\2b\)*`, `\(\(.\)\2\)\{2\}`, `\(\(.*\)\2\)\{0,1\}`, `\(a\(b\)*\)*\2`, `\(a*\)*\1`, `\(a\)*b*\1`, `\(a\)\(b\)\{0,1\}\2\1`, `\(\(a\)\{0,1\}\(\2\)\)\{2\}b`, `\(\)\(\1a\)*`,
	}
	for _, text := range kinds {
		for _, subject := range texts("ab", 4) {
			checkAll(t, text, subject)
		}
	}
}

// All BREs of a few pieces.
func TestAllBresOfAFewPieces(t *testing.T) {
	pieces := []string{`a`, `.*`, `\(`, `\)`, `*`, `\{2\}`, `\{0,1\}`, `\{1,\}`, `^`, `$`, `\1`}
	var grow func(text string, more int)
	grow = func(text string, more int) {
		if _, fault := bre.Parse(text); fault.E == api.OK {
			for _, subject := range []string{"", "a", "ab", "aab"} {
				checkAll(t, text, subject)
			}
		}
		if more == 0 {
			return
		}
		for _, piece := range pieces {
			grow(text+piece, more-1)
		}
	}
	grow("", 4)
	for _, first := range []string{`a`, `.*`, `\(a\)*`, `\(a*\)`, `^`} {
		for _, second := range []string{``, `b*`, `\(.\)\{1,2\}`, `$`} {
			for _, repeat := range []string{``, `*`, `\{2\}`, `\{1,\}`, `\{0,2\}`, `\{1,2\}*`, `*\{2\}`} {
				for _, behind := range []string{`.*`, `\1`, `\1*`, `\1\{1,2\}b`} {
					checkAll(t, `\(`+first+second+`\)`+repeat+behind, "aab")
					checkAll(t, `\(`+first+second+`\)`+repeat+behind, "ba")
				}
			}
		}
	}
}

// checkRefused holds Count against an error, with nothing beside it.
func checkRefused(t *testing.T, want api.Errno, text, subject string, at int) {
	t.Helper()
	if count, e := Count(text, subject, at); e != want || count != 0 {
		t.Errorf("Count(%q, %d bytes, %d) = %d, %d, want %d", text, len(subject), at, count, e, want)
	}
}

// faulty has texts with each error of bre.Parse. The empty text beside some would match, if the fault were overlooked.
func faulty() map[api.Errno][]string {
	return map[api.Errno][]string{
		api.ErrLong:   {strings.Repeat("^", 513), "a*" + strings.Repeat(`\`, 511)},
		api.ErrEnd:    {`a*\`, `[`, `a*[^`},
		api.ErrClass:  {`[[:Digit:]]*`},
		api.ErrRange:  {`[z-a]*`},
		api.ErrRepeat: {`\{1\}`, `a\{2,1\}`, `a\{256\}`, `a*\}`},
		api.ErrFull:   {strings.Repeat(`\(\)`, 10)},
		api.ErrParen:  {`\(a*`, `a*\)`, `\(a\)\1\(`},
		api.ErrBack:   {`\1`, `\(a\1\)*`, `\(a\)\2`},
		api.ErrEscape: {`\w*`, `a*\0`},
		api.ErrTooBig: {strings.Repeat("a", 257), `a\{255\}bc`, `\(a\)\1\{255\}b`},
	}
}

func TestEachErrorAlone(t *testing.T) {
	for want, texts := range faulty() {
		for _, text := range texts {
			checkRefused(t, want, text, "aa", 0)
			checkRefused(t, want, text, "", 0)
		}
	}
	for _, text := range []string{"", "a*", "^", "b", `\(a*\)\1`} {
		checkRefused(t, api.ErrSpace, text, strings.Repeat("a", 1025), 0)
		checkRefused(t, api.ErrSpace, text, strings.Repeat("a", 5000), 1)
		for _, place := range []int{-1, -2, 3, 4, 1 << 40, -1 << 63, 1<<63 - 1} {
			checkRefused(t, api.ErrArg, text, "aa", place)
		}
		checkRefused(t, api.ErrArg, text, "", 1)
		checkRefused(t, api.ErrArg, text, "", -1)
	}
}

// Two errors at a time: the one that the chapter names first is the answer.
func TestTwoErrorsAtATime(t *testing.T) {
	long := strings.Repeat("a", 1025)
	for want, texts := range faulty() {
		for _, text := range texts {
			checkRefused(t, want, text, long, 0)
			checkRefused(t, want, text, "a", -1)
			checkRefused(t, want, text, "a", 2)
			checkRefused(t, want, text, long, 1026)
		}
	}
	for _, text := range []string{"", "a*", "b", `\(a*\)\1`} {
		checkRefused(t, api.ErrSpace, text, long, -1)
		checkRefused(t, api.ErrSpace, text, long, 1026)
	}
}

func TestLimits(t *testing.T) {
	long := strings.Repeat("a", 1024)
	check(t, `a*`, long, 0, 1025)
	check(t, `a*`, long, 1, 1024)
	check(t, `a*`, long, 1024, 1)
	check(t, `\(a\)\1`, long, 0, 1024)
	check(t, `\(a\)\1`, long, 1023, 1)
	check(t, `\(a\)\1`, long, 1024, 0)
	check(t, `a*$`, long, 0, 1)
	checkRefused(t, api.ErrArg, `a*`, long, 1025)
	checkRefused(t, api.ErrArg, `a*`, long, -1)
	checkRefused(t, api.ErrSpace, `a*`, long+"a", 0)
	check(t, strings.Repeat(`\(\)`, 9)+strings.Repeat("*", 476), "", 0, 1)
	check(t, `^*`+strings.Repeat("*", 510), "*", 0, 2)
}

// P1 and P2: any texts at all; what is answered twice is the same.
func TestAnyTexts(t *testing.T) {
	chance := rand.New(rand.NewSource(12))
	pieces := []string{`\`, "(", ")", "{", "}", "[", "]", "*", "^", "$", ",", "2", "a", `\(`, `\)`, `\{2\}`, `\1`}
	for range 20000 {
		text := randomText(chance, pieces, 30)
		if chance.Intn(2) == 0 {
			text += string([]byte{byte(chance.Intn(256))})
		}
		subject := randomText(chance, pieces, 12)
		at := chance.Intn(40) - 3
		count, e := Count(text, subject, at)
		_, fault := bre.Parse(text)
		wrong := at < 0 || at > len(subject)
		if fault.E != api.OK && e != fault.E || fault.E == api.OK && (e == api.ErrArg) != wrong || e != api.OK && count != 0 || count < 0 || count > 4097 {
			t.Fatalf("Count(%q, %q, %d) = %d, %d", text, subject, at, count, e)
		}
		if again, f := Count(text, subject, at); again != count || f != e {
			t.Fatalf("Count(%q, %q, %d): told otherwise the second time", text, subject, at)
		}
	}
}

// What is handed in is neither changed nor kept: new bytes in the same memory are read anew.
func TestArgumentsAreNotKept(t *testing.T) {
	text, subject := []byte(`\(a*\)b`), []byte("aab")
	textView, subjectView := unsafe.String(&text[0], len(text)), unsafe.String(&subject[0], len(subject))
	if count, e := Count(textView, subjectView, 0); count != 1 || e != api.OK || string(text) != `\(a*\)b` || string(subject) != "aab" {
		t.Fatalf("Count = %d, %d, of %q and %q", count, e, text, subject)
	}
	copy(text, `b\(a*\)`)
	copy(subject, "baa")
	if count, e := Count(textView, subjectView, 0); count != 3 || e != api.OK {
		t.Errorf("Count = %d, %d", count, e)
	}
}

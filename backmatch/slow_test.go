package backmatch

import (
	"math/rand"
	"strings"
	"testing"

	"runnel/api"
	"runnel/bre"
	"runnel/measure"
	"runnel/setmatch"
	"runnel/slow"
	"runnel/ways"
)

// checkAll holds Match, from every place, against all derivations written down.
func checkAll(t *testing.T, text, subject string) {
	t.Helper()
	tree, fault := bre.Parse(text)
	known, _ := measure.Of(text)
	if fault.E != api.OK {
		t.Fatalf("%q is no BRE: %v", text, fault)
	}
	for from := range len(subject) + 1 {
		checkFrom(t, text, subject, from, tree, known.Groups)
	}
}

// checkFrom does so from one place.
func checkFrom(t *testing.T, text, subject string, from int, tree api.Re, groups int) {
	t.Helper()
	for at := from; at <= len(subject); at++ {
		if slow.Count(tree, groups, subject, at, api.MaxWays) > api.MaxWays {
			checkRefused(t, api.ErrWays, text, subject, from)
			return
		}
		if best, found := slow.Best(tree, groups, subject, at); found {
			check(t, text, subject, from, best.Spans, true)
			return
		}
	}
	check(t, text, subject, from, nil, false)
}

// texts answers all texts of up to some bytes of an alphabet.
func texts(alphabet string, longest int) []string {
	all := []string{""}
	for begin := 0; longest > 0; longest-- {
		stop := len(all)
		for _, text := range all[begin:stop] {
			for _, b := range []byte(alphabet) {
				all = append(all, text+string(b))
			}
		}
		begin = stop
	}
	return all
}

// forward has BREs without back-references.
func forward() []string {
	return []string{
		// A set, ^ and $.
		``, `a`, `.`, `[^a]`, `^`, `$`, `^a`, `a$`, `^$`, `^.*$`, `\(^a\)`, `\(a$\)`, `\(^\)a`, `a*\(^b*\)`, `\(^a*\)\{2\}`, `\(a*$\)\{2\}`, `\(a*$\)\{0,1\}b*`, `\(^\)*\(a*\)`, `\(\(^\)\{1,\}a*\)*b*`,
		// Groups within groups, and side by side.
		`\(\(a\)b\)`, `\(a\(b\)*\)`, `\(\(\(a*\)b*\)a*\)`, `\(a*\)\(b*\)`, `\(a*\)\(ab\)*\(b*\)`, `\(a*\)\(.\)`, `\(.*\)\(.*\)`, `\(a\{0,1\}\)\(ab\{0,1\}\)\(b*\)`, `\(.\{0,1\}\)\(.*\)\(b\)`, `\(\)a\(\)`, `\(\(\)\(a*\)\)`,
		// Repeats of every form, of groups, of repeats, of what can match nothing, of no times.
		`\(a\)*`, `\(a\)\{1\}`, `\(a\)\{2\}`, `\(a\)\{0,1\}`, `\(a\)\{1,2\}`, `\(a\)\{1,\}`, `\(a\)\{2,\}`, `\(.\)\{1,2\}\(.*\)`, `\(a\{1,2\}\)*`, `\(a\{1,2\}\)\{2\}`, `\(a\{1,2\}\)\{1,\}b`,
		`\(ab*\)*`, `\(\(a\)*b\)*`, `\(\(a\)\{0,1\}\(b\)\{0,1\}\)\{2\}`, `\(\(a\)*\(b\)*.\)*`, `\(\(a*\)\(b*\)\)\{1,2\}`, `\(aa\)*\(a\)*`, `\(.\{2\}\)\{0,1\}\(.\{1,2\}\)*`,
		`\(a\)**`, `\(a\)*\{2\}`, `\(a\)\{2\}*`, `\(a\)\{1,2\}\{2\}`, `\(a\)\{0,2\}\{1,\}`, `\(\(a\)*\)*`, `\(\(.\{1,2\}\)*\)*`, `\(a*\(b\)*\)**`,
		`\(\)*`, `\(\)\{2\}`, `\(\)\{1,\}a`, `\(a*\)*`, `\(a*\)*b`, `\(a*\)\{1,\}b`, `\(a*\)\{2\}`, `\(a\{0,1\}\)\{1,3\}`, `\(a*b*\)\{2\}`, `\(\(a*\)*\(b*\)*\)*`, `\(\(a*\)\{1,\}b*\)\{2\}`, `\(\($\)*a*\)*`,
		`\(a\)\{0\}`, `\(\(a\)*b\)\{0\}`, `\(\(a\)\{0\}b\)*`, `\(a\)\{0\}\{2\}b*`, `\(^\)\{0\}a\($\)\{0\}`,
		// A group that is matched in an early iteration alone.
		`\(\(a\)\{0,1\}b\)*`, `\(\(a\)*b*\)\{2\}`, `\(\(a\)\{0,1\}\(b\)\{0,1\}.\)*`, `\(\(\(a\)*b\)*a*\)*`, `\(\(^a\)*b*\)\{1,\}`,
	}
}

// backward has BREs with back-references.
func backward() []string {
	return []string{
		`\(a\)\1`, `\(.\)\1`, `\(a*\)\1`, `\(.*\)\1`, `\(.*\)\1$`, `^\(.*\)\1`, `\(.*\)b\1`, `\(.\{1,2\}\)\1`, `\(^.\)\1`, `\(.$\)\1`, `\(\)\1`, `\(^\)\1a`, `.\($\)\1`,
		// Ahead of, within and behind repeats.
		`\(a\)\1b*`, `\(a*\)\1a*`, `\(a*\)\1.*`, `\(.\)\1*`, `\(.\)\1\{2\}`, `\(.\)\1\{0,1\}b`, `\(a*\)\1\{1,\}`, `\(.\)\1\{0\}`, `\(.\)\1**`, `\(a*\)\1\{2\}*`, `\(\(.\)\2\)*`, `\(\(a\)*\2b\)*`, `\(\(.\)\2\)\{2\}`, `\(\(.*\)\2\)\{0,1\}`, `\(\(.*\)\2\)\{2\}`, `\(\(.\)*\2\)\{1,2\}`, `\(a\(b\)*\)*\2`, `\(a*\)*\1`, `\(.\)*\1`, `\(.\)*b*\1`, `\(.\{1,2\}\)*\1`, `\(.\{0,1\}\)\{2\}\1`,
		// A group that may have matched nothing.
		`\(a\)*\1`, `\(a\)\{0,1\}\1b`, `\(a\)\{0\}\1`, `\(a\)\{0\}\1*`, `\(\(a\)\{0,1\}.\2\)*`, `\(\(a\)*b\)*\2`, `\(.\(b\)\{0,1\}\2\)\{2\}`, `\(\(a*\)\2\)\{2\}`, `\(\(a\)*\2\)\{2\}`, `\(\(a*\)*\2*\)\{1,2\}`, `\(\(a*\)\{1,\}\2\)*`,
		// Two to one group; groups that refer to others.
		`\(a*\)\1\1`, `\(.\)\1\1`, `\(.*\)b\1\1`, `\(.\)\(.\)\2\1`, `\(.\)\(.\)\1\2`, `\(.*\)\(.*\)\1`, `\(.*\)\(.*\)\2`, `\(.*\)\(.*\)\2\1`, `\(.\)\(\1\)\2`, `\(\(.\)\2\)\1`, `\(\(.*\)\2\)\1`, `\(a\)\(b\)\{0,1\}\2\1`, `\(\(a\)\{0,1\}\(\2\)\)\{2\}b`, `\(\)\(\1a\)*`, `\(.\)\(\1b*\)*\2`,
		// Which is ahead.
		`\(a*\)\(ab\)*\1`, `\(a*\)\(a*b\)\{0,1\}\1`, `\(a*\)b*\1`, `\(a\{0,1\}\)\(ab\)\{0,1\}\(b*\)\1`, `\(.\{0,1\}\)\(.*\)\1`, `\(.*\)\(b\)*\1\(.*\)`, `\(.\{1,2\}\)*\(.*\)\1`, `\(\(a*\)b*\)*\2\1`,
	}
}

// Small BREs on small subjects, from every place, against all derivations.
func TestSmallBres(t *testing.T) {
	for _, text := range forward() {
		for _, subject := range texts("ab", 4) {
			checkAll(t, text, subject)
		}
	}
	for _, text := range backward() {
		for _, subject := range append(texts("ab", 4), "aaaaa", "ababa", "aabaab", "abbabb", "babab", "abaaba") {
			checkAll(t, text, subject)
		}
	}
}

// All BREs of a few pieces.
func TestAllBresOfAFewPieces(t *testing.T) {
	pieces := []string{`a`, `.*`, `\(`, `\)`, `*`, `\{2\}`, `\{0,1\}`, `\{1,\}`, `$`, `\1`}
	var grow func(text string, more int)
	grow = func(text string, more int) {
		if _, fault := bre.Parse(text); fault.E == api.OK {
			for _, subject := range []string{"", "a", "ab", "aab"} {
				checkAll(t, text, subject)
			}
		}
		if more == 0 {
			return
		}
		for _, piece := range pieces {
			grow(text+piece, more-1)
		}
	}
	grow("", 4)
	// Nearly all of the longer ones are no BREs; these are.
	for _, first := range []string{`a`, `.*`, `\(a\)*`, `\(a*\)`, `\(b\)\{0,1\}`, `\(.\)\2`, `^`} {
		for _, second := range []string{``, `b*`, `\(.\)\{1,2\}`, `$`} {
			for _, repeat := range []string{``, `*`, `\{2\}`, `\{1,\}`, `\{0,2\}`, `\{1,2\}*`, `*\{2\}`} {
				for _, behind := range []string{`.*`, `\1`, `\1*`, `\1\{1,2\}b*`, `.*\1`} {
					for _, subject := range []string{"aab", "abab", "bbb"} {
						checkAll(t, `\(`+first+second+`\)`+repeat+behind, subject)
					}
				}
			}
		}
	}
}

// randomBre answers a BRE of a given depth; a group is opened only while there are some left, and referred to only if it is closed.
func randomBre(chance *rand.Rand, depth int, groups *int, closed map[int]int) string {
	var text strings.Builder
	for range 1 + chance.Intn(3) {
		switch {
		case depth > 0 && *groups < 6 && chance.Intn(2) == 0:
			*groups++
			number := *groups
			text.WriteString(`\(` + randomBre(chance, depth-1, groups, closed) + `\)`)
			closed[len(closed)] = number
		case len(closed) > 0 && chance.Intn(3) == 0:
			text.WriteString(`\` + string(rune('0'+closed[chance.Intn(len(closed))])))
		case *groups < 9 && chance.Intn(12) == 0:
			*groups++
			text.WriteString([]string{`\(^\)*`, `\($\)*`, `\(^a\)*`}[chance.Intn(3)])
		default:
			text.WriteString([]string{`a`, `b`, `.`, `[ab]`}[chance.Intn(4)])
		}
		for chance.Intn(2) == 0 {
			text.WriteString([]string{`*`, `*`, `\{2\}`, `\{0,1\}`, `\{1,\}`, `\{1,2\}`, `\{0,3\}`, `\{2,\}`, `\{0\}`}[chance.Intn(9)])
		}
	}
	return text.String()
}

// randomText answers a text of some of the pieces.
func randomText(chance *rand.Rand, pieces []string, most int) string {
	var text strings.Builder
	for range chance.Intn(most + 1) {
		text.WriteString(pieces[chance.Intn(len(pieces))])
	}
	return text.String()
}

// Random BREs, against all derivations; without those that have so many repeats that writing all down would take too long.
func TestRandomBres(t *testing.T) {
	chance := rand.New(rand.NewSource(7))
	for range 20000 {
		groups := 3
		text := randomBre(chance, 3, &groups, map[int]int{})
		repeats := strings.Count(text, "*") + strings.Count(text, `\{`)
		if known, fault := measure.Of(text); fault.E == api.OK && known.Positions <= 9 && repeats <= 4 {
			checkAll(t, text, randomText(chance, []string{"a", "b"}, 5))
		}
	}
}

// P10.2: without back-references it is what setmatch answers, up to the first place with too many ways.
func TestAsSetmatch(t *testing.T) {
	chance := rand.New(rand.NewSource(8))
	for range 4000 {
		groups := 1
		text := randomBre(chance, 3, &groups, map[int]int{})
		known, fault := measure.Of(text)
		if fault.E != api.OK || known.Back {
			continue
		}
		checkAsSetmatch(t, text, randomText(chance, []string{"a", "b", "c", "aab"}, 12))
	}
	for _, text := range forward() {
		for _, subject := range texts("ab", 5) {
			checkAsSetmatch(t, text, subject)
		}
	}
	long := strings.Repeat("ab", 300)
	for _, text := range []string{`\(a*\)b`, `.*`, `\(ab\)*`, `\(.\)*$`, `\(.\{1,2\}\)\{3\}`, `\(\(a\)\{0,1\}\(b\)\{0,1\}\)\{4\}`, `c`, `\(b\)$`, `\(.*\)b`, `\(ab*\)\{100\}\(.\)`} {
		for _, subject := range []string{long, long + "c", "c" + long} {
			checkAsSetmatch(t, text, subject)
		}
	}
}

func checkAsSetmatch(t *testing.T, text, subject string) {
	t.Helper()
	want, found, _, _ := setmatch.Match(text, subject, 0)
	last := len(subject)
	if found {
		last = want[0].From
	}
	for at := range last + 1 {
		if count, _ := ways.Count(text, subject, at); count > api.MaxWays {
			checkRefused(t, api.ErrWays, text, subject, 0)
			return
		}
	}
	check(t, text, subject, 0, want, found)
}

// P1: many ways at many places, repeats that no one could write out, and dead ends that no one could try one by one.
func TestHardOnesComeBack(t *testing.T) {
	long := strings.Repeat("a", 1024)
	stars := strings.Repeat("*", 480)
	for _, r := range []row{
		{`\(\(a*\)*b\)*\(\)\3`, long, 0, "0-0 - - 0-0"}, {`\(\(\(a*\)*\)*b\)*\(\)\4$`, long, 0, "1024-1024 - - - 1024-1024"}, {`\(a*` + stars + `b\)*\(\)\2$`, long, 0, "1024-1024 - 1024-1024"},
		{`\(\)` + strings.Repeat(`\{255\}`, 70) + `\1$`, long, 0, "1024-1024 1024-1024"}, {`\(\(\)\{255\}\{255\}a\)\{250\}\1\2b*$`, long, 0, "773-1024 1022-1023 1022-1022"},
		{`\(b\{0,1\}` + strings.Repeat(`\{1\}`, 80) + `\)\{255\}\1$`, long, 0, "1024-1024 1024-1024"}, {`\(.\{60\}\).\{0,60\}\1$`, strings.Repeat("abcdefg", 140) + "x", 0, "none"}, {`\(.\{1,60\}\).\{0,60\}\1$`, strings.Repeat("abcdefg", 140) + "xyz", 0, "none"},
		{`\(.\)\(.\)\(.\)\(.\)\4\3\2\1$`, strings.Repeat("abcdefghi", 3), 0, "none"},
	} {
		checkRows(t, []row{r})
	}
	for _, text := range []string{`\(a*\)*\1`, `\(a*\)` + stars + `\1`, strings.Repeat("a*", 250) + `\(\)\1`, `\(a\)` + strings.Repeat(`\1*`, 80), `\(a\)\1\{200\}`} {
		checkRefused(t, api.ErrWays, text, long, 0)
	}
}

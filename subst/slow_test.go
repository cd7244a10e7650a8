package subst

import (
	"math/rand"
	"strings"
	"testing"

	"runnel/api"
	"runnel/bre"
	"runnel/matcher"
	"runnel/measure"
	"runnel/slow"
)

// slowMatch answers the match from a place on, by all derivations written down; ErrWays where a BRE with back-references has too many ways.
func slowMatch(tree api.Re, known api.Measure, subject string, from int) ([]api.Span, bool, api.Errno) {
	for at := from; at <= len(subject); at++ {
		if known.Back && slow.Count(tree, known.Groups, subject, at, api.MaxWays) > api.MaxWays {
			return nil, false, api.ErrWays
		}
		if best, found := slow.Best(tree, known.Groups, subject, at); found {
			return best.Spans, true, api.OK
		}
	}
	return nil, false, api.OK
}

// slowAll looks for occurrences by P12.1's words, and answers them with the error behind them.
func slowAll(text, subject string) ([][]api.Span, api.Errno) {
	tree, _ := bre.Parse(text)
	known, _ := measure.Of(text)
	var occurrences [][]api.Span
	ended := -1
	for place := 0; place <= len(subject); {
		spans, found, e := slowMatch(tree, known, subject, place)
		if e != api.OK || !found {
			return occurrences, e
		}
		from, to := spans[0].From, spans[0].To
		if from < to || from != ended {
			occurrences = append(occurrences, spans)
		}
		ended, place = to, to
		if from == to {
			place++
		}
	}
	return occurrences, api.OK
}

// slowPut makes a text of a match by P13.4's words.
func slowPut(parts []api.Part, subject string, spans []api.Span) (string, api.Errno) {
	put := ""
	for _, part := range parts {
		switch {
		case part.Group < -1:
			return "", api.ErrArg
		case part.Group == -1:
			put += part.Text
		case part.Group < len(spans) && spans[part.Group].From >= 0:
			put += subject[spans[part.Group].From:spans[part.Group].To]
		}
		if len(put) > 1024 {
			return "", api.ErrSpace
		}
	}
	return put, api.OK
}

// slowDo goes P14.2's course over occurrences that are all known, with the error behind them: it exchanges them in the whole subject, one at a time, and keeps how far it has shifted.
func slowDo(occurrences [][]api.Span, behind api.Errno, parts []api.Part, nth int, all bool, subject string) (string, int, api.Errno) {
	whole, shift, count := subject, 0, 0
	for i, spans := range occurrences {
		if i+1 < nth || i+1 > nth && !all {
			continue
		}
		put, e := slowPut(parts, subject, spans)
		if e != api.OK {
			return "", 0, e
		}
		ahead, rest := whole[:spans[0].From+shift], whole[spans[0].To+shift:]
		whole = ahead + put + rest
		shift += len(put) - (spans[0].To - spans[0].From)
		if len(ahead)+len(put) > 1024 {
			return "", 0, api.ErrSpace
		}
		count++
	}
	// The error behind them is come to if more are looked for than there are.
	if behind != api.OK && (all || len(occurrences) < nth) {
		return "", 0, behind
	}
	if len(whole) > 1024 {
		return "", 0, api.ErrSpace
	}
	return whole, count, api.OK
}

// checkSlow holds Do against the plain course, with all parts, each nth that says something else, and each all.
func checkSlow(t *testing.T, text, subject string, counts map[api.Errno]int, replacements ...[]api.Part) {
	t.Helper()
	m, fault := matcher.New(text)
	if fault.E != api.OK {
		t.Fatalf("%q is no BRE: %v", text, fault)
	}
	occurrences, behind := slowAll(text, subject)
	for _, parts := range replacements {
		for nth := 1; nth <= len(occurrences)+2; nth++ {
			for _, all := range []bool{false, true} {
				want, count, wantE := slowDo(occurrences, behind, parts, nth, all, subject)
				got, n, e := Do(m, parts, nth, all, subject)
				if got != want || n != count || e != wantE {
					t.Fatalf("Do(%q, %v, %d, %v, %q) = %q, %d, %d, want %q, %d, %d", text, parts, nth, all, subject, got, n, e, want, count, wantE)
				}
				counts[wantE]++
			}
		}
	}
}

// replacements answers parts of which some grow too long at the second or a later one, and some can't be built.
func replacements() [][]api.Part {
	much := func(length int) string { return strings.Repeat("p", length) }
	return [][]api.Part{
		nil, {plain("-")}, {plain("<"), group(0), plain(">")}, {group(2), plain(","), group(1)}, {group(0), group(0), group(3)}, {plain("xyz"), {Group: 1, Text: "no"}},
		{plain(much(340))}, {plain(much(511))}, {plain(much(512))}, {plain(much(1019))}, {plain(much(1022)), group(1)}, {plain(much(1023))}, {plain(much(1024))}, {plain(much(1024)), group(0)}, {group(0), plain(much(1022)), group(0)}, {plain(much(1025))},
		{group(-2)}, {plain(much(1024)), group(0), group(-2)}, {group(0), group(0), group(0), plain(much(1020)), group(-5)},
	}
}

// enough looks whether each of the errors was met often.
func enough(t *testing.T, counts map[api.Errno]int, errors ...api.Errno) {
	t.Helper()
	for _, e := range errors {
		if counts[e] < 20 {
			t.Errorf("the answers: %v", counts)
		}
	}
}

// texts answers all texts of up to some bytes of an alphabet.
func texts(alphabet string, longest int) []string {
	all := []string{""}
	for begin := 0; longest > 0; longest-- {
		stop := len(all)
		for _, text := range all[begin:stop] {
			for _, b := range []byte(alphabet) {
				all = append(all, text+string(b))
			}
		}
		begin = stop
	}
	return all
}

// P14.1 and P14.2 of small BREs on small subjects.
func TestSmallBres(t *testing.T) {
	counts := map[api.Errno]int{}
	for _, text := range []string{
		``, `a`, `.`, `[^a]`, `a*`, `.*`, `ab*`, `a*b`, `a\{0,1\}`, `.\{2\}`, `^`, `$`, `^a*`, `a*$`, `^$`, `\(^a\)*b*`, `\(a\)*`, `\(a*\)*b`, `\(ab\)*`, `\(a*\)\(b*\)`, `\(\(a\)*b\)*`, `\(\)`, `\(a\)\{0\}`,
		`\(.\)\1`, `\(a*\)\1`, `\(.\)\1*`, `\(a*\)b\1`, `\(\)\1b*`, `\(\(a\)*b\)*\2`, `\(a\)*\(b\)\2`,
	} {
		for _, subject := range append(texts("ab", 4), "aabbaabb", "abcabcaab") {
			checkSlow(t, text, subject, counts, replacements()...)
		}
	}
	enough(t, counts, api.OK, api.ErrArg, api.ErrSpace)
}

// Places with too many ways, behind others.
func TestTooManyWays(t *testing.T) {
	counts := map[api.Errno]int{}
	for _, text := range []string{many, `\(a*\)*b\1*`, `\(a\{1,\}\)*\1b`} {
		for _, subject := range []string{run(0), run(1), run(3), "bb" + run(0) + run(1), strings.Repeat("a", 9) + "bb", "bbbb" + strings.Repeat("ab", 5)} {
			checkSlow(t, text, subject, counts, replacements()...)
		}
	}
	enough(t, counts, api.OK, api.ErrArg, api.ErrSpace, api.ErrWays)
}

// randomBre answers a BRE of a given depth; a group is referred to only if it is closed.
func randomBre(chance *rand.Rand, depth int, groups *int, closed map[int]int) string {
	var text strings.Builder
	for range 1 + chance.Intn(3) {
		switch {
		case depth > 0 && *groups < 5 && chance.Intn(2) == 0:
			*groups++
			number := *groups
			text.WriteString(`\(` + randomBre(chance, depth-1, groups, closed) + `\)`)
			closed[len(closed)] = number
		case len(closed) > 0 && chance.Intn(3) == 0:
			text.WriteString(`\` + string(rune('0'+closed[chance.Intn(len(closed))])))
		default:
			text.WriteString([]string{`a`, `b`, `.`, `[ab]`}[chance.Intn(4)])
		}
		for chance.Intn(2) == 0 {
			text.WriteString([]string{`*`, `*`, `\{2\}`, `\{0,1\}`, `\{1,\}`, `\{1,2\}`, `\{0\}`}[chance.Intn(7)])
		}
	}
	return text.String()
}

// randomParts answers parts with any Groups, and with Texts of which some are long.
func randomParts(chance *rand.Rand) []api.Part {
	lengths := []int{0, 1, 2, 3, 100, 255, 256, 340, 511, 512, 1000, 1020}
	var parts []api.Part
	for range chance.Intn(5) {
		part := group(chance.Intn(8))
		if chance.Intn(2) == 0 {
			part = plain(strings.Repeat("q", lengths[chance.Intn(len(lengths))]))
		}
		if chance.Intn(40) == 0 {
			part.Group = -2
		}
		parts = append(parts, part)
	}
	return parts
}

// randomText answers a text of up to some bytes a and b.
func randomText(chance *rand.Rand, most int) string {
	bytes := make([]byte, chance.Intn(most+1))
	for i := range bytes {
		bytes[i] = "ab"[chance.Intn(2)]
	}
	return string(bytes)
}

func TestRandomBres(t *testing.T) {
	chance := rand.New(rand.NewSource(51))
	counts := map[api.Errno]int{}
	for range 12000 {
		groups := 0
		text := []string{"", "", "^"}[chance.Intn(3)] + randomBre(chance, 2, &groups, map[int]int{}) + []string{"", "", "$"}[chance.Intn(3)]
		repeats := strings.Count(text, "*") + strings.Count(text, `\{`)
		if known, fault := measure.Of(text); fault.E == api.OK && known.Positions <= 8 && repeats <= 3 {
			checkSlow(t, text, randomText(chance, 7), counts, randomParts(chance), randomParts(chance))
		}
	}
	enough(t, counts, api.OK, api.ErrArg, api.ErrSpace)
}

// P1 and P2: any arguments at all; what is answered twice is the same, and errors come in their order.
func TestAnyArguments(t *testing.T) {
	chance := rand.New(rand.NewSource(52))
	numbers := []int{-1 << 63, -1, 0, 1, 1, 1, 2, 3, 511, 512, 513, 1<<63 - 1}
	for range 5000 {
		m, _ := matcher.New([]string{"a", "", "b*", `\(a*\)b`, `\(.\)\1`, `\(`, many}[chance.Intn(7)])
		subject := randomText(chance, 12)
		if chance.Intn(8) == 0 {
			subject = strings.Repeat("ab", 500) + strings.Repeat("b", chance.Intn(40))
		}
		parts, nth, all := randomParts(chance), numbers[chance.Intn(len(numbers))], chance.Intn(2) == 0
		text, n, e := Do(m, parts, nth, all, subject)
		switch {
		case nth < 1 || nth > 512:
			if e != api.ErrArg {
				t.Fatalf("Do(%d) = %d", nth, e)
			}
		case m == nil && e != api.ErrState, m != nil && len(subject) > 1024 && e != api.ErrSpace:
			t.Fatalf("Do(%q, %d bytes) = %d", m.Text(), len(subject), e)
		}
		if e != api.OK && (text != "" || n != 0) || len(text) > 1024 || n < 0 || n > 1025 || !all && n > 1 || e == api.OK && n == 0 && text != subject {
			t.Fatalf("Do(%q, %v, %d, %v, %q) = %q, %d, %d", m.Text(), parts, nth, all, subject, text, n, e)
		}
		if again, k, f := Do(m, parts, nth, all, subject); again != text || k != n || f != e {
			t.Fatalf("Do(%q, %v, %d, %v, %q): told otherwise the second time", m.Text(), parts, nth, all, subject)
		}
	}
}

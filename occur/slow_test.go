package occur

import (
	"math/rand"
	"slices"
	"strings"
	"testing"

	"runnel/api"
	"runnel/bre"
	"runnel/matcher"
	"runnel/measure"
	"runnel/slow"
)

// slowMatch answers the match from a place on, by all derivations written down; ErrWays where a BRE with back-references has too many ways.
func slowMatch(tree api.Re, known api.Measure, subject string, from int) ([]api.Span, bool, api.Errno) {
	for at := from; at <= len(subject); at++ {
		if known.Back && slow.Count(tree, known.Groups, subject, at, api.MaxWays) > api.MaxWays {
			return nil, false, api.ErrWays
		}
		if best, found := slow.Best(tree, known.Groups, subject, at); found {
			return best.Spans, true, api.OK
		}
	}
	return nil, false, api.OK
}

// slowAll looks for occurrences by P12.1's words.
func slowAll(text, subject string) ([][]api.Span, api.Errno) {
	tree, _ := bre.Parse(text)
	known, _ := measure.Of(text)
	var occurrences [][]api.Span
	place := 0
	for place <= len(subject) {
		spans, found, e := slowMatch(tree, known, subject, place)
		if e != api.OK {
			return occurrences, e
		}
		if !found {
			return occurrences, api.OK
		}
		from, to := spans[0].From, spans[0].To
		if from == to && len(occurrences) > 0 && occurrences[len(occurrences)-1][0].To == from {
			place++
			continue
		}
		occurrences = append(occurrences, spans)
		place = to
		if from == to {
			place++
		}
	}
	return occurrences, api.OK
}

// checkSlow holds All and List against the slow search, and P12.3 against what they answer.
func checkSlow(t *testing.T, text, subject string) {
	t.Helper()
	m, fault := matcher.New(text)
	if fault.E != api.OK {
		t.Fatalf("%q is no BRE: %v", text, fault)
	}
	want, wantE := slowAll(text, subject)
	list, e := told(t, All(m, subject))
	if !same(list, want) || e != wantE {
		t.Fatalf("All(%q, %q) = %v, %d, want %v, %d", text, subject, list, e, want, wantE)
	}
	for most := range len(want) + 3 {
		first, e := List(text, subject, most)
		if most > len(want) && wantE != api.OK {
			if len(first) != 0 || e != wantE {
				t.Fatalf("List(%q, %q, %d) = %v, %d, want %d", text, subject, most, first, e, wantE)
			}
		} else if !same(first, want[:min(most, len(want))]) || e != api.OK {
			t.Fatalf("List(%q, %q, %d) = %v, %d, want the first of %v", text, subject, most, first, e, want)
		}
	}
	checkOrder(t, text, subject, list)
}

// checkOrder holds occurrences against P12.3.
func checkOrder(t *testing.T, text, subject string, list [][]api.Span) {
	t.Helper()
	ended := -1
	for _, whole := range wholes(list) {
		empty := whole.From == whole.To
		if whole.From < max(ended, 0) || whole.To < whole.From || whole.To > len(subject) || empty && whole.From == ended {
			t.Fatalf("All(%q, %q) = %v: %v stands behind %d", text, subject, list, whole, ended)
		}
		ended = whole.To
	}
}

// texts answers all texts of up to some bytes of an alphabet.
func texts(alphabet string, longest int) []string {
	all := []string{""}
	for begin := 0; longest > 0; longest-- {
		stop := len(all)
		for _, text := range all[begin:stop] {
			for _, b := range []byte(alphabet) {
				all = append(all, text+string(b))
			}
		}
		begin = stop
	}
	return all
}

// P12.1 to P12.3 of small BREs on small subjects.
func TestSmallBres(t *testing.T) {
	for _, text := range []string{
		``, `a`, `.`, `[^a]`, `a*`, `.*`, `ab*`, `a*b`, `a*b*`, `a\{0,1\}`, `a\{2\}`, `.\{2\}`, `.\{0,2\}`, `a\{1,\}`, `^`, `$`, `^a`, `a$`, `^a*`, `a*$`, `^$`, `^.*$`, `\(^a\)*`, `\(a$\)*`, `\(^\)*b*`, `\($\)*b*`, `\(^a\)*b`, `a*\($\)\{0,1\}`,
		`\(a\)*`, `\(a*\)*b`, `\(ab\)*`, `\(\(a\)*b\)*`, `\(a\{1,2\}\)\{2\}`, `\(a*\)\(b*\)`, `\(.\{1,2\}\)*a`, `\(\)`, `\(\)*`, `\(a\)\{0\}`,
		`\(a\)\1`, `\(.\)\1`, `\(a*\)\1`, `\(.*\)\1`, `\(.\{1,2\}\)\1`, `\(a*\)b\1`, `\(.\)\1*`, `\(^.\)\1`, `\(.$\)\1`, `\(.*\)\1$`, `^\(.*\)\1`, `\(\)\1`, `\(\)\1b*`, `\(a\)*\1`, `\(a\)\{0,1\}\1*`, `\(\(a\)*b\)*\2`, `\(b*\)\1\1`, `\(.\)\(.\)\2\1`, `\(a\)\{0\}\1*b*`,
	} {
		for _, subject := range append(texts("ab", 5), "aabbaabb", "abcabcaab", "aaaaaaaa", "babababa") {
			checkSlow(t, text, subject)
		}
	}
}

// Places with too many ways, behind others.
func TestTooManyWays(t *testing.T) {
	for _, text := range []string{many, `\(a*\)*b\1*`, `\(\(a\)*\)*b\1*`, `\(a\{1,\}\)*\1b`} {
		for _, subject := range []string{run(0), run(1), run(3), "bb" + run(0) + run(1), "abababb" + strings.Repeat("a", 14), strings.Repeat("a", 9) + "bb", "bbbb" + strings.Repeat("ab", 5)} {
			checkSlow(t, text, subject)
		}
	}
}

// randomBre answers a BRE of a given depth; a group is referred to only if it is closed.
func randomBre(chance *rand.Rand, depth int, groups *int, closed map[int]int) string {
	var text strings.Builder
	for range 1 + chance.Intn(3) {
		switch {
		case depth > 0 && *groups < 5 && chance.Intn(2) == 0:
			*groups++
			number := *groups
			text.WriteString(`\(` + randomBre(chance, depth-1, groups, closed) + `\)`)
			closed[len(closed)] = number
		case len(closed) > 0 && chance.Intn(3) == 0:
			text.WriteString(`\` + string(rune('0'+closed[chance.Intn(len(closed))])))
		default:
			text.WriteString([]string{`a`, `b`, `.`, `[ab]`}[chance.Intn(4)])
		}
		for chance.Intn(2) == 0 {
			text.WriteString([]string{`*`, `*`, `\{2\}`, `\{0,1\}`, `\{1,\}`, `\{1,2\}`, `\{0\}`}[chance.Intn(7)])
		}
	}
	return text.String()
}

// randomText answers a text of some of the pieces.
func randomText(chance *rand.Rand, pieces []string, most int) string {
	var text strings.Builder
	for range chance.Intn(most + 1) {
		text.WriteString(pieces[chance.Intn(len(pieces))])
	}
	return text.String()
}

func TestRandomBres(t *testing.T) {
	chance := rand.New(rand.NewSource(31))
	for range 20000 {
		groups := 0
		text := []string{"", "", "^"}[chance.Intn(3)] + randomBre(chance, 2, &groups, map[int]int{}) + []string{"", "", "$"}[chance.Intn(3)]
		repeats := strings.Count(text, "*") + strings.Count(text, `\{`)
		if known, fault := measure.Of(text); fault.E == api.OK && known.Positions <= 8 && repeats <= 3 {
			checkSlow(t, text, randomText(chance, []string{"a", "b"}, 7))
		}
	}
}

// P1 and P2: any texts at all; what is answered twice is the same.
func TestAnyTexts(t *testing.T) {
	chance := rand.New(rand.NewSource(32))
	pieces := []string{`\`, "(", ")", "{", "}", "[", "]", "*", "^", "$", ",", "2", "a", `\(`, `\)`, `\{2\}`, `\1`, `\(.*\)`}
	for range 10000 {
		text := randomText(chance, pieces, 20)
		if chance.Intn(2) == 0 {
			text += string([]byte{byte(chance.Intn(256))})
		}
		subject := randomText(chance, pieces, 12)
		most := chance.Intn(8) - 2
		list, e := List(text, subject, most)
		_, fault := bre.Parse(text)
		if fault.E != api.OK && e != fault.E || fault.E == api.OK && (e == api.ErrArg) != (most < 0) || e != api.OK && len(list) > 0 || len(list) > max(most, 0) {
			t.Fatalf("List(%q, %q, %d) = %v, %d", text, subject, most, list, e)
		}
		again, f := List(text, subject, most)
		if !slices.EqualFunc(list, again, slices.Equal[[]api.Span]) || e != f {
			t.Fatalf("List(%q, %q, %d): told otherwise the second time", text, subject, most)
		}
		checkOrder(t, text, subject, list)
	}
}

package setmatch

import (
	"math/rand"
	"slices"
	"strings"
	"testing"

	"runnel/api"
	"runnel/bre"
	"runnel/bset"
	"runnel/measure"
	"runnel/reach"
)

// Two slow ways to the match, both by the words of the document: all derivations written down with their lengths, for small subjects;
// and, for greater ones, which pieces each part of a tree matches, and then of each part, as it opens, the longest that leaves a way to the end.

// derivation is one: where it ends, its lengths, and its groups' spans.
type derivation struct {
	to      int
	lengths []int
	spans   []api.Span
}

// derive answers all derivations of a tree from a place, behind those of what stands ahead of it.
func derive(r api.Re, subject string, ahead derivation) []derivation {
	from := ahead.to
	// The length of the whole stands ahead of its parts': its room is kept, and filled when the end is known.
	mark := len(ahead.lengths)
	begun := derivation{from, append(slices.Clone(ahead.lengths), -1), ahead.spans}
	var all []derivation
	switch r.Kind {
	case api.KByte:
		if from < len(subject) && bset.Has(r.Set, subject[from]) {
			all = []derivation{{from + 1, begun.lengths, begun.spans}}
		}
	case api.KBol:
		if from == 0 {
			all = []derivation{begun}
		}
	case api.KEol:
		if from == len(subject) {
			all = []derivation{begun}
		}
	case api.KRepeat:
		all = iterate(r, subject, begun, 0)
	default:
		all = []derivation{begun}
		for _, kid := range r.Kids {
			var longer []derivation
			for _, d := range all {
				longer = append(longer, derive(kid, subject, d)...)
			}
			all = longer
		}
	}
	for i := range all {
		all[i].lengths = slices.Clone(all[i].lengths)
		all[i].lengths[mark] = all[i].to - from
		if r.Kind == api.KGroup {
			all[i].spans = slices.Clone(all[i].spans)
			all[i].spans[r.Group] = api.Span{From: from, To: all[i].to}
		}
	}
	return all
}

// iterate answers all derivations of a repeat of which some iterations are done.
func iterate(r api.Re, subject string, done derivation, count int) []derivation {
	var all []derivation
	if count >= r.Lo {
		all = append(all, done)
	}
	if count == r.Hi {
		return all
	}
	for _, d := range derive(r.Kids[0], subject, done) {
		if count >= r.Lo && d.to == done.to {
			continue
		}
		all = append(all, iterate(r, subject, d, count+1)...)
	}
	return all
}

// best answers the match by all derivations.
func best(t *testing.T, tree api.Re, groups int, subject string, from int) ([]api.Span, bool) {
	t.Helper()
	for at := from; at <= len(subject); at++ {
		all := derive(tree, subject, derivation{to: at, spans: unset(groups + 1)})
		if len(all) == 0 {
			continue
		}
		slices.SortFunc(all, func(a, b derivation) int { return slices.Compare(b.lengths, a.lengths) })
		for i := 1; i < len(all); i++ {
			if slices.Equal(all[i-1].lengths, all[i].lengths) {
				t.Fatalf("two derivations with the lengths %v", all[i].lengths)
			}
		}
		first := all[0]
		first.spans[0] = api.Span{From: at, To: first.to}
		return first.spans, true
	}
	return nil, false
}

// unset answers spans of which none is set.
func unset(count int) []api.Span {
	return slices.Repeat([]api.Span{{From: -1, To: -1}}, count)
}

// chart knows which pieces of a subject the parts of a tree match.
type chart struct {
	subject string
	known   map[*api.Re]map[int][]int // for each part and place its ends, rising
	left    map[key]map[int]int       // for each repeat, place and number of iterations done, the ends of what is left of it
	spans   []api.Span
}

type key struct {
	r         *api.Re
	at, count int
}

// ends answers where derivations of a part from a place end.
func (c *chart) ends(r *api.Re, at int) []int {
	if list, ok := c.known[r][at]; ok {
		return list
	}
	found := map[int]int{}
	switch r.Kind {
	case api.KByte:
		if at < len(c.subject) && bset.Has(r.Set, c.subject[at]) {
			found[at+1] = 1
		}
	case api.KBol:
		if at == 0 {
			found[at] = 1
		}
	case api.KEol:
		if at == len(c.subject) {
			found[at] = 1
		}
	case api.KRepeat:
		found = c.leftOf(r, at, 0)
	default:
		found = c.behind(r, at, 0)
	}
	list := []int{}
	for to := range found {
		list = append(list, to)
	}
	slices.Sort(list)
	if c.known[r] == nil {
		c.known[r] = map[int][]int{}
	}
	c.known[r][at] = list
	return list
}

// behind answers the ends of a part's Kids from one on.
func (c *chart) behind(r *api.Re, at, kid int) map[int]int {
	k := key{r, at, kid}
	if found, ok := c.left[k]; ok {
		return found
	}
	found := map[int]int{}
	if kid == len(r.Kids) {
		found[at] = 1
	} else {
		for _, to := range c.ends(&r.Kids[kid], at) {
			for end := range c.behind(r, to, kid+1) {
				found[end] = 1
			}
		}
	}
	c.left[k] = found
	return found
}

// leftOf answers the ends of a repeat of which some iterations are done.
func (c *chart) leftOf(r *api.Re, at, count int) map[int]int {
	if r.Hi < 0 {
		// Beyond the least number it no longer matters how many there were.
		count = min(count, r.Lo)
	}
	k := key{r, at, count}
	if found, ok := c.left[k]; ok {
		return found
	}
	found := map[int]int{}
	if count >= r.Lo {
		found[at] = 1
	}
	if count != r.Hi {
		for _, to := range c.ends(&r.Kids[0], at) {
			if count < r.Lo || to > at {
				for end := range c.leftOf(r, to, count+1) {
					found[end] = 1
				}
			}
		}
	}
	c.left[k] = found
	return found
}

// walk goes through the derivation of a part that matches a piece and is ahead of all others.
func (c *chart) walk(r *api.Re, from, to int) {
	switch r.Kind {
	case api.KByte, api.KBol, api.KEol:
		return
	case api.KGroup:
		c.spans[r.Group] = api.Span{From: from, To: to}
		c.walk(&r.Kids[0], from, to)
	case api.KCat:
		for i := range r.Kids {
			from = c.open(&r.Kids[i], from, func(at int) bool { return c.behind(r, at, i+1)[to] == 1 })
		}
	case api.KRepeat:
		for count := 0; count < r.Lo || from < to; count++ {
			from = c.open(&r.Kids[0], from, func(at int) bool { return c.leftOf(r, at, count+1)[to] == 1 })
		}
	}
}

// open takes the longest of a part from a place that leaves a way to the end, and answers where it ends.
func (c *chart) open(r *api.Re, from int, leads func(at int) bool) int {
	for _, to := range slices.Backward(c.ends(r, from)) {
		if leads(to) {
			c.walk(r, from, to)
			return to
		}
	}
	panic("no way to the end")
}

// charted answers the match by a chart.
func charted(tree api.Re, groups int, subject string, from int) ([]api.Span, bool) {
	c := &chart{subject, map[*api.Re]map[int][]int{}, map[key]map[int]int{}, unset(groups + 1)}
	for at := from; at <= len(subject); at++ {
		if ends := c.ends(&tree, at); len(ends) > 0 {
			to := ends[len(ends)-1]
			c.spans[0] = api.Span{From: at, To: to}
			c.walk(&tree, at, to)
			return c.spans, true
		}
	}
	return nil, false
}

// check holds Match against spans, and against what holds of every answer.
func check(t *testing.T, text, subject string, from int, want []api.Span, found bool) {
	t.Helper()
	spans, ok, count, e := Match(text, subject, from)
	if !slices.Equal(spans, want) || ok != found || e != api.OK {
		t.Fatalf("Match(%q, %q, %d) = %v, %v, %d, want %v, %v", text, subject, from, spans, ok, e, want, found)
	}
	first, foundFirst, _ := reach.First(text, subject, from)
	if ok != foundFirst || ok && spans[0] != first {
		t.Fatalf("Match(%q, %q, %d) = %v, %v, but First = %v, %v", text, subject, from, spans, ok, first, foundFirst)
	}
	known, _ := measure.Of(text)
	m, b, n := known.Positions, len(text), len(subject)
	if count < 0 || count > 4*(m+1)*(m+1)*(b+1)*(n+1)*(n+1) {
		t.Fatalf("Match(%q, %q, %d) counts %d", text, subject, from, count)
	}
	if !ok {
		return
	}
	if count < first.To-first.From || len(spans) != known.Groups+1 {
		t.Fatalf("Match(%q, %q, %d) = %v, counts %d", text, subject, from, spans, count)
	}
	for _, span := range spans {
		if span != (api.Span{From: -1, To: -1}) && (span.From < first.From || span.To < span.From || span.To > first.To) {
			t.Fatalf("Match(%q, %q, %d) = %v: a span beyond the whole", text, subject, from, spans)
		}
	}
}

// checkDerivations holds Match, from every place, against all derivations.
func checkDerivations(t *testing.T, text, subject string) {
	t.Helper()
	tree, groups := read(t, text)
	for from := range len(subject) + 1 {
		want, found := best(t, tree, groups, subject, from)
		check(t, text, subject, from, want, found)
	}
}

// checkChart holds Match, from some places, against a chart.
func checkChart(t *testing.T, text, subject string, places ...int) {
	t.Helper()
	tree, groups := read(t, text)
	for _, from := range places {
		want, found := charted(tree, groups, subject, from)
		check(t, text, subject, from, want, found)
	}
}

func read(t *testing.T, text string) (api.Re, int) {
	t.Helper()
	tree, fault := bre.Parse(text)
	known, _ := measure.Of(text)
	if fault.E != api.OK || known.Back {
		t.Fatalf("%q is no BRE for this: %v", text, fault)
	}
	return tree, known.Groups
}

// texts answers all texts of up to some bytes of an alphabet.
func texts(alphabet string, longest int) []string {
	all := []string{""}
	for begin := 0; longest > 0; longest-- {
		stop := len(all)
		for _, text := range all[begin:stop] {
			for _, b := range []byte(alphabet) {
				all = append(all, text+string(b))
			}
		}
		begin = stop
	}
	return all
}

// Small BREs on small subjects, from every place, against all derivations.
func TestSmallBres(t *testing.T) {
	kinds := []string{
		// A set, ^ and $.
		``, `a`, `.`, `[^a]`, `^`, `$`, `^a`, `a$`, `^$`, `^.*$`, `\(^a\)`, `\(a$\)`, `\(^\)a`, `a*\(^b*\)`, `\(^a*\)\{2\}`, `\(a*$\)\{2\}`, `\(a*$\)\{0,1\}b*`, `\(^\)*\(a*\)`, `\(\(^\)\{1,\}a*\)*b*`,
		// Groups within groups, and side by side.
		`\(\(a\)b\)`, `\(a\(b\)*\)`, `\(\(\(a*\)b*\)a*\)`, `\(a*\)\(b*\)`, `\(a*\)\(ab\)*\(b*\)`, `\(a*\)\(.\)`, `\(.*\)\(.*\)`, `\(a\{0,1\}\)\(ab\{0,1\}\)\(b*\)`, `\(.\{0,1\}\)\(.*\)\(b\)`, `\(\)a\(\)`, `\(\(\)\(a*\)\)`,
		// Repeats of every form.
		`\(a\)*`, `\(a\)\{1\}`, `\(a\)\{2\}`, `\(a\)\{0,1\}`, `\(a\)\{1,2\}`, `\(a\)\{1,\}`, `\(a\)\{2,\}`, `\(a\)\{0,\}`, `\(a\)\{0,0\}`, `\(.\)\{1,2\}\(.*\)`, `\(.\)*b`, `\(a\{1,2\}\)*`, `\(a\{1,2\}\)\{2\}`, `\(a\{1,2\}\)\{1,\}b`,
		// Repeats of groups.
		`\(ab\)*`, `\(a*b\)*`, `\(ab*\)*`, `\(ab*\)\{2\}`, `\(\(a\)*b\)*`, `\(\(a\)\{0,1\}\(b\)\{0,1\}\)\{2\}`, `\(a\(b\)*\)\{1,3\}`, `\(.\(a\)*\)*`, `\(\(a\)*\(b\)*.\)*`, `\(\(a*\)\(b*\)\)\{1,2\}`, `\(a\{2\}\)*\(a\{3\}\)*`, `\(aa\)*\(a\)*`, `\(.\{2\}\)\{0,1\}\(.\{1,2\}\)*`,
		// Repeats of repeats.
		`\(a\)**`, `\(a\)*\{2\}`, `\(a\)\{2\}*`, `\(a\)\{0,1\}*`, `\(a\)\{1,2\}\{2\}`, `\(a\)\{0,2\}\{1,\}`, `\(a\{2\}\)\{0,1\}\{2\}`, `\(\(a\)*\)*`, `\(\(a\)\{1,\}\)*b*`, `\(\(.\{1,2\}\)*\)*`, `\(a*\(b\)*\)**`,
		// Repeats of what can match nothing.
		`\(\)*`, `\(\)\{2\}`, `\(\)\{1,\}a`, `\(a*\)*`, `\(a*\)*b`, `\(a*\)\{1,\}b`, `\(a*\)\{2\}`, `\(a*\)\{3\}b`, `\(a\{0,1\}\)\{2\}`, `\(a\{0,1\}\)\{1,3\}`, `\(a*b*\)*`, `\(a*b*\)\{2\}`, `\(\(a*\)b*\)*`, `\(\(a*\)*\(b*\)*\)*`, `\(\(a*\)\{1,\}b*\)\{2\}`, `\(^*\)*`, `\(\($\)*a*\)*`,
		// Repeats of no times.
		`\(a\)\{0\}`, `\(a\)\{0\}b`, `\(\(a\)*b\)\{0\}`, `\(\(a\)\{0\}b\)*`, `\(a\)\{0\}*`, `\(a\)\{0\}\{2\}b*`, `\(^\)\{0\}a\($\)\{0\}`,
		// A group that is matched in an early iteration alone.
		`\(\(a\)\{0,1\}b\)*`, `\(\(a\)*b*\)\{2\}`, `\(\(a\)\{0,1\}\(b\)\{0,1\}.\)*`, `\(.\(a\)\{0,1\}\)\{2,3\}`, `\(\(\(a\)*b\)*a*\)*`, `\(\(^a\)*b*\)\{1,\}`,
		// What is taken first leaves a way to the end.
		`\(a*\)ab`, `\(a*\)\(a\)`, `\(.*\)b\(.*\)`, `\(a*\)\(b*\)\(a*\)b`, `\(.\{1,2\}\)\(.\{1,2\}\)$`, `\(.*\)\(a\)\(.*\)\(a\)`, `\(a\{1,2\}\)\(a\{1,2\}\)\(b*\)`, `^\(.*\)\(b\{0,1\}\)$`,
	}
	for _, text := range kinds {
		for _, subject := range texts("ab", 4) {
			checkDerivations(t, text, subject)
		}
	}
}

// All BREs of a few pieces.
func TestAllBresOfAFewPieces(t *testing.T) {
	pieces := []string{`a`, `.`, `b*`, `\(`, `\)`, `*`, `\{2\}`, `\{0,1\}`, `\{1,\}`, `^`, `$`}
	var grow func(text string, more int)
	grow = func(text string, more int) {
		if _, fault := bre.Parse(text); fault.E == api.OK {
			for _, subject := range []string{"", "a", "ab", "aab"} {
				checkDerivations(t, text, subject)
			}
		}
		if more == 0 {
			return
		}
		for _, piece := range pieces {
			grow(text+piece, more-1)
		}
	}
	grow("", 4)
	// Nearly all of the longer ones are no BREs; these are.
	for _, first := range []string{`a`, `a*`, `\(a\)*`, `\(a*\)`, `\(b\)\{0,1\}`, `^`} {
		for _, second := range []string{``, `b*`, `\(b*\)`, `\(.\)\{1,2\}`, `$`} {
			for _, repeat := range []string{``, `*`, `\{2\}`, `\{1,\}`, `\{0,2\}`, `\{1,2\}*`, `*\{2\}`} {
				for _, subject := range texts("ab", 3) {
					checkDerivations(t, `\(`+first+second+`\)`+repeat+`.*`, subject)
				}
			}
		}
	}
}

// randomBre answers a BRE of a given depth; a group is opened only while there are some left.
func randomBre(chance *rand.Rand, depth int, left *int) string {
	var text strings.Builder
	for range 1 + chance.Intn(3) {
		switch {
		case depth > 0 && *left > 0 && chance.Intn(2) == 0:
			*left--
			text.WriteString(`\(` + randomBre(chance, depth-1, left) + `\)`)
		case chance.Intn(12) == 0:
			text.WriteString([]string{`\(^\)*`, `\($\)*`, `\(^a\)*`}[chance.Intn(3)])
			*left--
		default:
			text.WriteString([]string{`a`, `b`, `.`, `[ab]`}[chance.Intn(4)])
		}
		for chance.Intn(2) == 0 {
			text.WriteString([]string{`*`, `*`, `\{2\}`, `\{0,1\}`, `\{1,\}`, `\{1,2\}`, `\{0,3\}`, `\{2,\}`, `\{0\}`}[chance.Intn(9)])
		}
	}
	return text.String()
}

// randomText answers a text of some of the pieces.
func randomText(chance *rand.Rand, pieces []string, most int) string {
	var text strings.Builder
	for range chance.Intn(most + 1) {
		text.WriteString(pieces[chance.Intn(len(pieces))])
	}
	return text.String()
}

// Random BREs, against all derivations on small subjects and against a chart on greater ones.
func TestRandomBres(t *testing.T) {
	chance := rand.New(rand.NewSource(8))
	for range 2000 {
		left := 6
		text := randomBre(chance, 3, &left)
		if _, fault := bre.Parse(text); fault.E != api.OK {
			continue
		}
		checkChart(t, text, randomText(chance, []string{"a", "b"}, 4), 0)
		subject := randomText(chance, []string{"a", "b", "aa", "ab", "c"}, 20)
		checkChart(t, text, subject, 0, len(subject)/2)
	}
}

// The chart itself, against all derivations.
func TestTheChart(t *testing.T) {
	chance := rand.New(rand.NewSource(9))
	for range 1500 {
		left := 3
		text := randomBre(chance, 2, &left)
		known, fault := measure.Of(text)
		if fault.E != api.OK || known.Positions > 12 {
			continue
		}
		tree, groups := read(t, text)
		subject := randomText(chance, []string{"a", "b"}, 4)
		want, found := best(t, tree, groups, subject, 0)
		if spans, ok := charted(tree, groups, subject, 0); !slices.Equal(spans, want) || ok != found {
			t.Fatalf("%q, %q: %v, %v, want %v, %v", text, subject, spans, ok, want, found)
		}
		check(t, text, subject, 0, want, found)
	}
}

// Many positions: the numbers of the later ones lie beyond one word of a set.
func TestManyPositions(t *testing.T) {
	chance := rand.New(rand.NewSource(10))
	for _, text := range []string{
		`\(a\{0,63\}\)\(b\{0,64\}\)\(a\{0,64\}\)\(.\{0,65\}\)`,
		`\(.\{0,50\}\)\(a\{0,50\}\)\(.\{0,50\}\)\(b\{0,50\}\)\(.\{0,50\}\)`,
		`\(\(a\{0,2\}b\)\{1,9\}c*\)\{2,9\}`,
		`\(\(a\)*\(b\)\{0,1\}.\{1,3\}\)\{2,40\}`,
		`\(\(.\{0,3\}\)\{5\}\(b\)*\)\{1,16\}`,
		`\(\(a*\)\{16\}b*\)\{8\}\(.*\)`,
		`.\{100\}\(\(a\)*b\)*\(.\{1,50\}\)\{2,3\}`,
		`\(^a*\)\{100\}\(.\{0,100\}\)$`,
		`\(\(\(\(\(\(a\{0,1\}\)\{2\}b*\)\{2\}\)\{2\}\)\{2\}\)\{2\}\)\{2\}`,
		`\(\(ab\{0,2\}\)\{0,60\}\)\(\(.\)\{0,60\}\)`,
		`\([ab]\)\{64\}\(a\)*\([ab]*\)\(b\)\{0,120\}`,
	} {
		for range 4 {
			subject := strings.Repeat("a", chance.Intn(70)) + randomText(chance, []string{"a", "b", "ab"}, 60) + strings.Repeat("b", chance.Intn(3))
			checkChart(t, text, subject, 0, min(1, len(subject)))
		}
	}
}

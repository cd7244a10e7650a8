package ways

import (
	"math/big"
	"math/rand"
	"strings"
	"testing"

	"runnel/api"
	"runnel/bre"
	"runnel/bset"
	"runnel/measure"
)

// A second way to count, for greater BREs: how many ways each part of a tree has from a place to each end, in numbers without a bound.

// ends are the numbers of ways, by where they end.
type ends map[int]*big.Int

func (a ends) add(to int, ways *big.Int) {
	if a[to] == nil {
		a[to] = new(big.Int)
	}
	a[to].Add(a[to], ways)
}

// key is a tree and a place; of trees with Kids, how many Kids or iterations are done.
type key struct {
	r        *api.Re
	at, done int
}

type chart struct {
	subject string
	known   map[key]ends
}

// of answers the ways of a tree from a place.
func (c *chart) of(r *api.Re, at int) ends {
	found := ends{}
	one := big.NewInt(1)
	switch r.Kind {
	case api.KByte:
		if at < len(c.subject) && bset.Has(r.Set, c.subject[at]) {
			found.add(at+1, one)
		}
	case api.KBol:
		if at == 0 {
			found.add(at, one)
		}
	case api.KEol:
		if at == len(c.subject) {
			found.add(at, one)
		}
	case api.KBack:
		for to := at; to <= len(c.subject); to++ {
			found.add(to, one)
		}
	default:
		return c.behind(r, at, 0)
	}
	return found
}

// behind answers the ways of a tree of which some Kids or iterations are done.
func (c *chart) behind(r *api.Re, at, done int) ends {
	if r.Kind == api.KRepeat && r.Hi < 0 {
		// Beyond the least number it no longer matters how many there were.
		done = min(done, r.Lo)
	}
	k := key{r, at, done}
	if found, ok := c.known[k]; ok {
		return found
	}
	found := ends{}
	repeat := r.Kind == api.KRepeat
	if repeat && done >= r.Lo || !repeat && done == len(r.Kids) {
		found.add(at, big.NewInt(1))
	}
	if repeat && done != r.Hi || !repeat && done < len(r.Kids) {
		kid := &r.Kids[0]
		if !repeat {
			kid = &r.Kids[done]
		}
		for to, ways := range c.of(kid, at) {
			if repeat && done >= r.Lo && to == at {
				continue
			}
			for end, more := range c.behind(r, to, done+1) {
				found.add(end, new(big.Int).Mul(ways, more))
			}
		}
	}
	c.known[k] = found
	return found
}

// charted answers what Count should.
func charted(c *chart, tree *api.Re, at int) int {
	total := new(big.Int)
	for _, ways := range c.of(tree, at) {
		total.Add(total, ways)
	}
	if total.Cmp(big.NewInt(api.MaxWays)) > 0 {
		return api.MaxWays + 1
	}
	return int(total.Int64())
}

// checkChart holds Count, at every place, against a chart.
func checkChart(t *testing.T, text, subject string) {
	t.Helper()
	tree, fault := bre.Parse(text)
	if fault.E != api.OK {
		t.Fatalf("%q is no BRE: %v", text, fault)
	}
	c := &chart{subject, map[key]ends{}}
	for at := range len(subject) + 1 {
		check(t, text, subject, at, charted(c, &tree, at))
	}
}

// randomBre answers a BRE of a given depth; a group is opened only while there are some left, and referred to only if it is closed.
func randomBre(chance *rand.Rand, depth int, groups *int, closed map[int]int) string {
	var text strings.Builder
	for range 1 + chance.Intn(3) {
		switch {
		case depth > 0 && *groups < 6 && chance.Intn(2) == 0:
			*groups++
			number := *groups
			text.WriteString(`\(` + randomBre(chance, depth-1, groups, closed) + `\)`)
			closed[len(closed)] = number
		case len(closed) > 0 && chance.Intn(4) == 0:
			text.WriteString(`\` + string(rune('0'+closed[chance.Intn(len(closed))])))
		case *groups < 9 && chance.Intn(12) == 0:
			*groups++
			text.WriteString([]string{`\(^\)*`, `\($\)*`, `\(^a\)*`}[chance.Intn(3)])
		default:
			text.WriteString([]string{`a`, `b`, `.`, `[ab]`}[chance.Intn(4)])
		}
		for chance.Intn(2) == 0 {
			text.WriteString([]string{`*`, `*`, `\{2\}`, `\{0,1\}`, `\{1,\}`, `\{1,2\}`, `\{0,3\}`, `\{2,\}`, `\{0\}`}[chance.Intn(9)])
		}
	}
	return text.String()
}

// randomText answers a text of some of the pieces.
func randomText(chance *rand.Rand, pieces []string, most int) string {
	var text strings.Builder
	for range chance.Intn(most + 1) {
		text.WriteString(pieces[chance.Intn(len(pieces))])
	}
	return text.String()
}

func TestRandomBres(t *testing.T) {
	chance := rand.New(rand.NewSource(7))
	for range 3000 {
		groups := 0
		text := randomBre(chance, 3, &groups, map[int]int{})
		known, fault := measure.Of(text)
		if fault.E != api.OK {
			continue
		}
		checkChart(t, text, randomText(chance, []string{"a", "b", "c"}, 8))
		if known.Positions < 20 {
			checkChart(t, text, randomText(chance, []string{"a", "b", "aa", "ab", "c"}, 16))
		}
	}
}

// The chart itself, against all relaxed derivations.
func TestTheChart(t *testing.T) {
	chance := rand.New(rand.NewSource(9))
	for range 2000 {
		groups := 4
		text := randomBre(chance, 2, &groups, map[int]int{})
		if known, fault := measure.Of(text); fault.E != api.OK || known.Positions > 10 {
			continue
		}
		subject := randomText(chance, []string{"a", "b"}, 4)
		checkChart(t, text, subject)
		checkAll(t, text, subject)
	}
}

func TestManyPositions(t *testing.T) {
	chance := rand.New(rand.NewSource(10))
	for _, text := range []string{
		`a\{0,63\}b\{0,64\}a\{0,64\}.\{0,65\}`,
		`\(.\{2,50\}\)\1\(a\{0,50\}\)$`,
		`\(\(a\{0,2\}b\)\{1,9\}c*\)\{2,9\}$`,
		`\(\(a\)*\(b\)\{0,1\}.\{1,3\}\)\{2,40\}`,
		`.\{100\}\(\(a\)*b\)*\(.\{1,50\}\)\{2,3\}`,
		`\(^a*\)\{100\}\(.\{0,100\}\)$`,
		`\(\(\(\(\(\(a\{0,1\}\)\{2\}b*\)\{2\}\)\{2\}\)\{2\}\)\{2\}\)\{2\}`,
		`\([ab]\)\{64\}a*\(b\)\{0,120\}\1`,
		`\(.\)\{250\}\1`,
		`\(c*\)\{254\}\1$`,
		`\(ab*\)\{1,40\}\(b\)\1\{0,3\}`,
	} {
		for range 3 {
			checkChart(t, text, strings.Repeat("a", chance.Intn(30))+randomText(chance, []string{"a", "b", "ab"}, 20)+strings.Repeat("b", chance.Intn(3)))
		}
	}
}

// Exactly MaxWays, one more, one less, and far more.
func TestCountsAboutMaxWays(t *testing.T) {
	long := strings.Repeat("ab", 512)
	for _, c := range []struct {
		text, subject string
		want          int
	}{
		{`.\{0,63\}.\{0,63\}`, long, 4096}, {`.\{0,31\}.\{0,127\}`, long, 4096}, {`.\{0,15\}.\{0,15\}.\{0,15\}`, long, 4096}, {`\(a*\)*`, strings.Repeat("a", 12), 4096}, {`a\{0,1\}\{12\}$`, "", 1}, {`\(.\{0,1\}\)\{12\}`, long[:12], 4096},
		{`.\{0,16\}.\{0,240\}`, long, 4097}, {`\(.\{0,16\}\)\(.\{0,240\}\)`, long, 4097}, {`.\{0,62\}.\{0,64\}`, long, 4095}, {`\(\)\1b*\1`, strings.Repeat("a", 89), 4095},
		{`.\{0,63\}.\{0,64\}`, long, 4097}, {`.\{0,40\}.\{0,99\}`, long, 4097}, {`\(a*\)*`, strings.Repeat("a", 13), 4097}, {`\(\)\1b*\1`, strings.Repeat("a", 90), 4097}, {`.*`, long, 1025}, {`\(\)\1`, long, 1025},
		{`.\{0,63\}.\{0,63\}c`, long, 0}, {`.\{0,63\}.\{0,64\}\(^c\)`, long, 0}, {`.\{0,63\}.\{0,64\}c\{0\}`, long, 4097},
		// Each with one way more: a way beside them that takes none.
		{`\(.\{0,63\}.\{0,63\}c\)\{0,1\}`, long, 1}, {`\(.\{1,64\}.\{0,63\}\)\{0,1\}`, long, 4097}, {`\(.\{1,63\}.\{0,64\}\)\{0,1\}`, long, 4096},
	} {
		check(t, c.text, c.subject, 0, c.want)
	}
}

// P1: counts that no one could go through one by one, and BREs that no one could write out; each such call comes back.
func TestFarMoreWays(t *testing.T) {
	long := strings.Repeat("a", 1024)
	stars := strings.Repeat("*", 490)
	for _, c := range []struct {
		text string
		want int
	}{
		{`\(a*\)*`, 4097}, {`\(\(a*\)*\)*b`, 0}, {`a**` + stars, 4097}, {`a*` + stars + `b`, 0}, {`\(a*\)` + stars + `\1`, 4097}, {`\(a*` + stars + `b\)*\1$`, 1},
		{strings.Repeat("a*", 256), 4097}, {strings.Repeat("a*", 255) + "b", 0}, {strings.Repeat(".*", 255) + "$", 4097}, {`\(` + strings.Repeat("a*", 120) + `\)*b`, 0}, {`\(` + strings.Repeat("a*", 25) + `\)\{10\}` + strings.Repeat("*", 400) + "b", 0},
		{`\(\)\1\{255\}`, 4097}, {`\(\)\1\{255\}$`, 4097}, {`\(\)\1*b`, 0}, {`\(\)` + strings.Repeat(`\1`, 253) + `b`, 0}, {`\(a\)\1**\{200\}`, 4097},
		{`a` + strings.Repeat(`\{1,\}`, 84), 4097}, {`a` + strings.Repeat(`\{1,\}`, 84) + "b", 0}, {`a*` + strings.Repeat(`\{1\}`, 80) + `\{255\}b`, 0}, {`\(a` + strings.Repeat(`*`, 480) + `\)\{255\}b`, 0},
		{`\(\)` + strings.Repeat(`\{255\}`, 70), 1}, {`\(^\)` + strings.Repeat(`\{255\}`, 70), 1}, {`\($\)` + strings.Repeat(`\{255\}`, 70), 0}, {`\(a\{0\}\)` + strings.Repeat(`\{255\}`, 60) + `a`, 1}, {`\(\(\)\{255\}a\(\)\{255\}\{255\}\)\{255\}`, 1},
		{`a\{255\}.`, 1}, {`\(a\{0,255\}\).`, 256}, {`\(.\{16\}\)\{16\}`, 1}, {strings.Repeat("a", 256), 1},
	} {
		check(t, c.text, long, 0, c.want)
	}
}

// P9.2 of BREs without back-references on greater subjects: check holds each count against reach.
func TestAWayJustWhereReachHasAnEnd(t *testing.T) {
	chance := rand.New(rand.NewSource(11))
	for range 1500 {
		groups := 3
		text := randomBre(chance, 3, &groups, map[int]int{})
		known, fault := measure.Of(text)
		if fault.E != api.OK || known.Back {
			continue
		}
		subject := randomText(chance, []string{"a", "b", "c", "aab"}, 30)
		for at := range len(subject) + 1 {
			count, _ := Count(text, subject, at)
			check(t, text, subject, at, count)
		}
	}
}

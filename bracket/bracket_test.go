package bracket

import (
	"math"
	"math/rand"
	"regexp"
	"strings"
	"testing"

	"runnel/api"
)

// setOf makes a set bit by bit, as DOC.md's section Words says where a byte's bit stands.
func setOf(text string) api.Set {
	var s api.Set
	for i := range len(text) {
		s[text[i]/64] |= 1 << (text[i] % 64)
	}
	return s
}

// spanOf is the set of the bytes from lo to hi.
func spanOf(lo, hi int) api.Set {
	var s api.Set
	for b := lo; b <= hi; b++ {
		s[b/64] |= 1 << (b % 64)
	}
	return s
}

func without(s api.Set) api.Set {
	for i := range s {
		s[i] = ^s[i]
	}
	return s
}

func in(s api.Set, b int) bool {
	return s[b/64]&(1<<(b%64)) != 0
}

// reads is a text, from whose beginning on Parse reads all but the last skip bytes.
type reads struct {
	text string
	want api.Set
	skip int
}

// checkReads parses each text by itself, in the midst of others, and with more behind it.
func checkReads(t *testing.T, list []reads) {
	t.Helper()
	for _, c := range list {
		length := len(c.text) - c.skip
		for _, ahead := range []string{"", "x", "[", "[[:", "a]\n", "\xff[^"} {
			for _, behind := range []string{"", "]", "x", "-z]", ":]", "[", "[[:nix:]]", "\x00"} {
				text := ahead + c.text + behind
				s, next, e := Parse(text, len(ahead))
				if s != c.want || next != len(ahead)+length || e != api.OK {
					t.Errorf("Parse(%q, %d) = %x, %d, %d, want %x, %d, OK", text, len(ahead), s, next, e, c.want, len(ahead)+length)
				}
			}
		}
	}
}

// checkRefused parses each text, by itself and in the midst of others.
func checkRefused(t *testing.T, want api.Errno, texts ...string) {
	t.Helper()
	for _, text := range texts {
		for _, ahead := range []string{"", "x", "[", "[a]"} {
			if s, next, e := Parse(ahead+text, len(ahead)); s != (api.Set{}) || next != 0 || e != want {
				t.Errorf("Parse(%q, %d) = %x, %d, %d, want the empty set, 0, %d", ahead+text, len(ahead), s, next, e, want)
			}
		}
	}
}

// P3.1.

func TestParse(t *testing.T) {
	checkReads(t, []reads{
		{"[abc]", setOf("abc"), 0},
		{"[^a]x", without(setOf("a")), 1},
		{"[]a]", setOf("]a"), 0},
		{"[a-c-]", setOf("abc-"), 0},
		{"[[:digit:]x]", setOf("0123456789x"), 0},
		{"[[.-.]-0]", setOf("-./0"), 0},
		{"[a[]", setOf("a["), 0},
		{"[a]", setOf("a"), 0},
		{"[aa]", setOf("a"), 0},
		{"[a^]", setOf("a^"), 0},
		{"[^^]", without(setOf("^")), 0},
		{"[^^^]", without(setOf("^")), 0},
		{"[\\n]", setOf("\\n"), 0},
		{"[\\]]", setOf("\\"), 1},
		{"[\n]", setOf("\n"), 0},
		{"[^\n]", without(setOf("\n")), 0},
		{"[\x00\xff]", setOf("\x00\xff"), 0},
		{"[é]", setOf("\xc3\xa9"), 0},
		{"[^\x00-\xff]", api.Set{}, 0},
		{"[\x00-\xff]", spanOf(0, 255), 0},
		{"[*.$]", setOf("*.$"), 0},
	})
}

func TestParseOfEveryByte(t *testing.T) {
	for b := range 256 {
		one := string([]byte{byte(b)})
		if b != '^' {
			checkReads(t, []reads{{"[" + one + "]", setOf(one), 0}})
		}
		checkReads(t, []reads{
			{"[^" + one + "]", without(setOf(one)), 0},
			{"[[." + one + ".]]", setOf(one), 0},
			{"[[=" + one + "=]]", setOf(one), 0},
		})
	}
}

func TestParseOfAClosingBracketFirst(t *testing.T) {
	checkReads(t, []reads{
		{"[]]", setOf("]"), 0},
		{"[^]]", without(setOf("]")), 0},
		{"[]]]", setOf("]"), 1},
		{"[^]]]", without(setOf("]")), 1},
		{"[^]a]", without(setOf("]a")), 0},
		{"[]-a]", setOf("]^_`a"), 0},
		{"[^]-a]", without(setOf("]^_`a")), 0},
		{"[]-]", setOf("]-"), 0},
		{"[][]", setOf("]["), 0},
		{"[a]]", setOf("a"), 1},
		{"[[]]", setOf("["), 1},
		{"[^[]]", without(setOf("[")), 1},
	})
}

func TestParseWhereNoExpressionBegins(t *testing.T) {
	for _, c := range []struct {
		text string
		at   int
	}{
		{"", 0}, {"", -1}, {"", 1}, {"a", 0}, {"]", 0}, {"^", 0}, {"a[a]", 0}, {"[a]", 1}, {"[a]", 2}, {"[a]", 3}, {"[a]", 4}, {"[a]", -1},
		{"[abc]", 5}, {"abcde", 5}, {"[[a]", -2}, {"[a]", math.MaxInt}, {"[a]", math.MinInt}, {"[", 1}, {"\xfb", 0},
	} {
		if s, next, e := Parse(c.text, c.at); s != (api.Set{}) || next != 0 || e != api.ErrArg {
			t.Errorf("Parse(%q, %d) = %x, %d, %d, want the empty set, 0, ErrArg", c.text, c.at, s, next, e)
		}
	}
}

// P3.2.

func TestItems(t *testing.T) {
	blank, upper := setOf(" \t"), spanOf('A', 'Z')
	checkReads(t, []reads{
		{"[[:blank:]]", blank, 0},
		{"[^[:blank:]]", without(blank), 0},
		{"[[:blank:][:upper:]_]", or(blank, or(upper, setOf("_"))), 0},
		{"[a[:upper:]]", or(setOf("a"), upper), 0},
		{"[[=a=]]", setOf("a"), 0},
		{"[[=a=]b]", setOf("ab"), 0},
		{"[[.a.]]", setOf("a"), 0},
		{"[[.a.]b]", setOf("ab"), 0},
		{"[[.].]]", setOf("]"), 0},
		{"[[=]=]]", setOf("]"), 0},
		{"[[...]]", setOf("."), 0},
		{"[[===]]", setOf("="), 0},
		{"[[.[.]]", setOf("["), 0},
		{"[[.^.]]", setOf("^"), 0},
		{"[^[.^.]]", without(setOf("^")), 0},
		{"[[.:.][=.=]]", setOf(":."), 0},
		{"[:a:]", setOf(":a"), 0},
		{"[:digit:]", setOf(":digt"), 0},
		{"[.a.]", setOf(".a"), 0},
		{"[=a=]", setOf("=a"), 0},
		{"[a:]", setOf("a:"), 0},
		{"[[a]", setOf("[a"), 0},
		{"[[[]", setOf("["), 0},
		{"[[[.a.]]", setOf("[a"), 0},
		{"[[[:upper:]]", or(setOf("["), upper), 0},
		{"[[-a]", spanOf('[', 'a'), 0},
		{"[[ :a:]]", setOf("[ :a"), 1},
	})
}

func or(a, b api.Set) api.Set {
	for i := range a {
		a[i] |= b[i]
	}
	return a
}

func TestEveryClass(t *testing.T) {
	for name, count := range map[string]int{
		"upper": 26, "lower": 26, "digit": 10, "alpha": 52, "alnum": 62, "xdigit": 22,
		"blank": 2, "space": 6, "graph": 94, "print": 95, "punct": 32, "cntrl": 33,
	} {
		s, next, e := Parse("[[:"+name+":]]", 0)
		size := 0
		for b := range 256 {
			if in(s, b) {
				size++
			}
		}
		if size != count || next != len(name)+6 || e != api.OK {
			t.Errorf("the class %s has %d bytes, next %d, error %d", name, size, next, e)
		}
	}
}

func TestItemsWithoutAnEnd(t *testing.T) {
	checkRefused(t, api.ErrEnd,
		"[[:", "[[=", "[[.", "[[:a", "[[=a", "[[.a", "[[:digit", "[[:digit]", "[[:digit:", "[[:digit: ]", "[[=a=", "[[.a.", "[[.a]", "[[=a]]", "[[.a=]]", "[[=a.]]", "[[:digit.]]",
		"[[::]]", "[[==]]", "[[..]]", "[[:]", "[[=]", "[[.]", "[[:]]", "[[.]]", "[[=]]", "[[::", "[[..", "[[:::", "[a[:", "[^[.", "[a-c[.b", "[[.a.][.b")
}

func TestItemsOfNoClass(t *testing.T) {
	checkRefused(t, api.ErrClass,
		"[[:nix:]]", "[[:Digit:]]", "[[:digit :]]", "[[:]:]]", "[[:::]]", "[[:[:]]", "[[::]:]]", "[[:a:]]", "[^[:nix:]]", "[a[:nix:]]", "[[:digit:][:nix:]]",
		"[[.ab.]]", "[[=ab=]]", "[[.é.]]", "[[=é=]]", "[[..].]]", "[[==]=]]", "[[....]]", "[[.digit.]]", "[[.a-b.]]", "[a[=bc=]]", "[[.a=].]]")
}

// The first end counts, not the last one.
func TestItemsEndSoon(t *testing.T) {
	checkReads(t, []reads{
		{"[[.a.].]", setOf("a."), 0},
		{"[[.a.].].]", setOf("a."), 2},
		{"[[:blank:]:]", setOf(" \t:"), 0},
		{"[[=a=]=][=b=]", setOf("a="), 5},
		{"[[...].]", setOf("."), 0},
	})
}

// P3.3.

func TestRanges(t *testing.T) {
	checkReads(t, []reads{
		{"[a-c]", setOf("abc"), 0},
		{"[^a-c]", without(setOf("abc")), 0},
		{"[a-a]", setOf("a"), 0},
		{"[a-b]", setOf("ab"), 0},
		{"[xa-cy]", setOf("xabcy"), 0},
		{"[a-cx-z]", setOf("abcxyz"), 0},
		{"[a-cb-d]", setOf("abcd"), 0},
		{"[a-c[:blank:]]", setOf("abc \t"), 0},
		{"[a-c[=x=]]", setOf("abcx"), 0},
		{"[[=x=]a-c]", setOf("abcx"), 0},
		{"[[:blank:]a-c]", setOf("abc \t"), 0},
		{"[[.a.]-c]", setOf("abc"), 0},
		{"[a-[.c.]]", setOf("abc"), 0},
		{"[[.a.]-[.c.]]", setOf("abc"), 0},
		{"[Z-[]", setOf("Z["), 0},
		{"[Z-[.].]]", setOf("Z[\\]"), 0},
		{"[[.].]-_]", setOf("]^_"), 0},
		{"[^-a]", without(setOf("-a")), 0},
		{"[a^-b]", spanOf('^', 'b'), 0},
		{"[\x00-\x02]", setOf("\x00\x01\x02"), 0},
		{"[\xfd-\xff]", setOf("\xfd\xfe\xff"), 0},
		{"[~-\x81]", setOf("~\x7f\x80\x81"), 0},
		{"[\t-\v]", setOf("\t\n\v"), 0},
	})
}

func TestADashThatIsAnItem(t *testing.T) {
	checkReads(t, []reads{
		{"[-]", setOf("-"), 0},
		{"[^-]", without(setOf("-")), 0},
		{"[-a]", setOf("-a"), 0},
		{"[^-a]", without(setOf("-a")), 0},
		{"[a-]", setOf("a-"), 0},
		{"[^a-]", without(setOf("a-")), 0},
		{"[a-]b]", setOf("a-"), 2},
		{"[--]", setOf("-"), 0},
		{"[---]", setOf("-"), 0},
		{"[----]", setOf("-"), 0},
		{"[---a]", setOf("-a"), 0},
		{"[+--a]", setOf("+,-a"), 0},
		{"[--/]", setOf("-./"), 0},
		{"[+--]", setOf("+,-"), 0},
		{"[+---]", setOf("+,-"), 0},
		{"[^---]", without(setOf("-")), 0},
		{"[-a-c]", setOf("-abc"), 0},
		{"[a-c-]", setOf("abc-"), 0},
		{"[[:blank:]-]", setOf(" \t-"), 0},
		{"[[=a=]-]", setOf("a-"), 0},
		{"[[.a.]-]", setOf("a-"), 0},
		{"[[.a.]-[.c.]-]", setOf("abc-"), 0},
		{"[[=-=]]", setOf("-"), 0},
		{"[a[.-.]c]", setOf("a-c"), 0},
	})
}

func TestRangesThatMayNotBe(t *testing.T) {
	checkRefused(t, api.ErrRange,
		"[c-a]", "[b-a]", "[\xff-\x00]", "[^c-a]", "[a-[]", "[[.c.]-a]", "[c-[.a.]]", "[a--]", "[a--b]", "[x-zc-a]",
		"[[:digit:]-z]", "[[=a=]-z]", "[[:digit:]-[.z.]]", "[a[:digit:]-z]",
		"[a-[=c=]]", "[a-[:digit:]]", "[[.a.]-[=c=]]", "[0-[:digit:]]",
		"[a-c-e]", "[a-c-c]", "[a-c--]", "[a-c-[.e.]]", "[a-[.c.]-e]", "[a-c-[:digit:]]", "[a-c-[:nix:]]", "[-----]", "[--.-a]", "[+---a]")
}

func TestTheOrderOfARangesErrors(t *testing.T) {
	// The end behind the - stands ahead of an item that may not begin a range.
	checkRefused(t, api.ErrEnd, "[a-", "[[:digit:]-", "[[=a=]-", "[[.a.]-", "[--", "[]-", "[^--")
	// An item that may not begin a range stands ahead of the next item's own error.
	checkRefused(t, api.ErrRange, "[[:digit:]-[:nix:]]", "[[:digit:]-[.ab.]]", "[[:digit:]-[:x", "[[=a=]-[:nix:]]", "[[=a=]-[.", "[[:digit:]-a", "[[:digit:]--")
	// The next item's own error stands ahead of what it may not be.
	checkRefused(t, api.ErrClass, "[a-[:nix:]]", "[a-[.bc.]]", "[a-[=bc=]]", "[a-[:nix:]-z]", "[z-[.ab.]]", "[a-[:nix:]")
	checkRefused(t, api.ErrEnd, "[a-[:", "[a-[:digit]", "[a-[.b", "[a-[=b=", "[z-[.]]", "[a-[..]]")
	// A range that may not be stands ahead of the text's end.
	checkRefused(t, api.ErrRange, "[c-a", "[a-[=c=]", "[a-[:digit:]", "[a-c-", "[a-c-e", "[a-[.c.]-", "[----", "[a-[")
}

func TestTheFirstErrorIsMet(t *testing.T) {
	checkRefused(t, api.ErrClass, "[[:nix:]c-a]", "[[:nix:][:", "[[.ab.]-a]", "[[:nix:]-", "[[:nix:]")
	checkRefused(t, api.ErrRange, "[c-a[:nix:]]", "[c-a[.", "[a-c-e[:nix:]]")
	checkRefused(t, api.ErrEnd, "[[.c-a[:nix:]]", "[a[:c-a]")
}

// P3.4.

func TestTextsThatEndEarly(t *testing.T) {
	checkRefused(t, api.ErrEnd, "[", "[^", "[a", "[^a", "[]", "[^]", "[]a", "[^]a", "[-", "[^-", "[-a", "[a-c", "[[", "[a[", "[^[", "[^^", "[[:digit:]", "[[=a=]", "[[.a.]", "[[.a.]-c", "[\\", "[a\n")
	for _, text := range []string{"[^]a-c[:digit:]_[=x=][.-.]-0[y-]", "[]-a[.].][[:punct:]\\]", "[-x]", "[^---]", "[A-[.c.]]"} {
		if _, next, e := Parse(text, 0); next != len(text) || e != api.OK {
			t.Errorf("Parse(%q) = .., %d, %d", text, next, e)
		}
		for end := 1; end < len(text); end++ {
			checkRefused(t, api.ErrEnd, text[:end])
		}
	}
}

// P3.5.

func TestText(t *testing.T) {
	for _, c := range []struct {
		set  api.Set
		want string
	}{
		{api.Set{}, "[^\x00-\xff]"},
		{spanOf(0, 255), "[\x00-,[.-.].-Z[.[.]\\[.].][.^.]_-\xff]"},
		{setOf("abcx"), "[a-cx]"},
		{setOf("]-a"), "[[.-.][.].]a]"},
		{setOf("a"), "[a]"},
		{setOf("ab"), "[ab]"},
		{setOf("abc"), "[a-c]"},
		{setOf("abcd"), "[a-d]"},
		{setOf("ac"), "[ac]"},
		{setOf("abd"), "[abd]"},
		{setOf("abdefhi"), "[abd-fhi]"},
		{setOf("abcefg"), "[a-ce-g]"},
		{setOf("]"), "[[.].]]"},
		{setOf("^"), "[[.^.]]"},
		{setOf("-"), "[[.-.]]"},
		{setOf("["), "[[.[.]]"},
		{setOf("[]^-"), "[[.-.][.[.][.].][.^.]]"},
		{setOf("]^"), "[[.].][.^.]]"},
		{setOf("+,-./"), "[+,[.-.]./]"},
		{setOf("*+,-./0"), "[*-,[.-.].-0]"},
		{setOf("YZ[\\]^_`"), "[YZ[.[.]\\[.].][.^.]_`]"},
		{setOf("XYZ[\\]^_`a"), "[X-Z[.[.]\\[.].][.^.]_-a]"},
		{setOf("[\\]"), "[[.[.]\\[.].]]"},
		{setOf("^_`a"), "[[.^.]_-a]"},
		{setOf("._"), "[._]"},
		{setOf(":="), "[:=]"},
		{setOf("[:=."), "[.:=[.[.]]"},
		{setOf("\x00"), "[\x00]"},
		{setOf("\xff"), "[\xff]"},
		{setOf("\xfe\xff"), "[\xfe\xff]"},
		{setOf("\xfd\xfe\xff"), "[\xfd-\xff]"},
		{setOf("\x00\x01\x02"), "[\x00-\x02]"},
		{setOf("\x00\xff"), "[\x00\xff]"},
		{setOf("\x3e\x3f\x40"), "[>-@]"},
		{setOf("\x7f\x80\xbf\xc0\xc1"), "[\x7f\x80\xbf-\xc1]"},
		{without(setOf("\n")), "[\x00-\t\v-,[.-.].-Z[.[.]\\[.].][.^.]_-\xff]"},
	} {
		if got := Text(c.set); got != c.want {
			t.Errorf("Text(%x) = %q, want %q", c.set, got, c.want)
		}
	}
}

// wordy writes a set by going over the 256 bytes, each once it is known how long its run is.
func wordy(s api.Set) string {
	if s == (api.Set{}) {
		return "[^\x00-\xff]"
	}
	plain := func(b int) bool { return b < 256 && in(s, b) && !strings.Contains("]^-[", string(rune(b))) }
	text := "["
	for b := 0; b < 256; b++ {
		if !in(s, b) {
			continue
		}
		if !plain(b) {
			text += "[." + string([]byte{byte(b)}) + ".]"
			continue
		}
		length := 1
		for plain(b + length) {
			length++
		}
		switch length {
		case 1:
			text += string([]byte{byte(b)})
		case 2:
			text += string([]byte{byte(b), byte(b + 1)})
		default:
			text += string([]byte{byte(b), '-', byte(b + length - 1)})
		}
		b += length - 1
	}
	return text + "]"
}

// manySets gives the empty set, the full one, all spans and all but a span, all of two bytes, and mixed ones of all densities.
func manySets(yield func(api.Set) bool) {
	for lo := range 256 {
		for hi := range 256 {
			s := spanOf(lo, hi)
			if lo > hi {
				s = or(spanOf(lo, lo), spanOf(hi, hi))
			}
			if !yield(s) || !yield(without(s)) {
				return
			}
		}
	}
	// All sets of 16 bytes that lie at - or about [ ] ^ .
	for _, from := range []int{'-' - 8, '[' - 6} {
		for bits := range 1 << 16 {
			var s api.Set
			for i := range 16 {
				if bits>>i&1 == 1 {
					s = or(s, spanOf(from+i, from+i))
				}
			}
			if !yield(s) {
				return
			}
		}
	}
	chance := rand.New(rand.NewSource(3))
	for range 20000 {
		var s api.Set
		dense := chance.Intn(257)
		for b := range 256 {
			if chance.Intn(256) < dense {
				s = or(s, spanOf(b, b))
			}
		}
		if !yield(s) {
			return
		}
	}
}

func TestTextOfManySets(t *testing.T) {
	for s := range manySets {
		text := Text(s)
		if want := wordy(s); text != want {
			t.Fatalf("Text(%x) = %q, want %q", s, text, want)
		}
		if back, next, e := Parse(text, 0); back != s || next != len(text) || e != api.OK {
			t.Fatalf("Parse(%q, 0) = %x, %d, %d, want %x, %d, OK", text, back, next, e, s, len(text))
		}
	}
}

// pieces finds, at a text's beginning, an item or range: the items with a mark first, as each is also a [.
var pieces = regexp.MustCompile(`(?s)^(?:(\[:.+?:\])|(\[=.+?=\])|(\[\..+?\.\])|(\[[:=.])|(.))`)

// oneItem answers an item's text, the byte that it is at a range's end (-1: it may not stand there), its set and its error.
func oneItem(text string) (string, int, api.Set, api.Errno) {
	found := pieces.FindStringSubmatch(text)
	switch {
	case found == nil || found[4] != "":
		return "", -1, api.Set{}, api.ErrEnd
	case found[1] == "[:digit:]":
		return found[1], -1, spanOf('0', '9'), api.OK
	case len(found[2]) == 5:
		return found[2], -1, setOf(found[2][2:3]), api.OK
	case len(found[3]) == 5:
		return found[3], int(found[3][2]), setOf(found[3][2:3]), api.OK
	case found[5] != "":
		return found[5], int(found[5][0]), setOf(found[5]), api.OK
	}
	return "", -1, api.Set{}, api.ErrClass
}

// isRange tells whether a text begins with a - that makes a range.
func isRange(text string) bool {
	return strings.HasPrefix(text, "-") && !strings.HasPrefix(text, "-]")
}

// slowParse reads an expression at a text's beginning piece by piece; the class digit is the only one it knows.
func slowParse(text string) (api.Set, int, api.Errno) {
	rest, opened := strings.CutPrefix(text, "[")
	if !opened {
		return api.Set{}, 0, api.ErrArg
	}
	rest, not := strings.CutPrefix(rest, "^")
	var all api.Set
	for count := 0; count == 0 || !strings.HasPrefix(rest, "]"); count++ {
		left, lo, s, e := oneItem(rest)
		if e != api.OK {
			return api.Set{}, 0, e
		}
		rest = rest[len(left):]
		if isRange(rest) {
			if rest == "-" {
				return api.Set{}, 0, api.ErrEnd
			}
			if lo < 0 {
				return api.Set{}, 0, api.ErrRange
			}
			right, hi, _, e := oneItem(rest[1:])
			if e != api.OK {
				return api.Set{}, 0, e
			}
			rest = rest[1+len(right):]
			if hi < lo || isRange(rest) {
				return api.Set{}, 0, api.ErrRange
			}
			s = spanOf(lo, hi)
		}
		all = or(all, s)
	}
	if not {
		all = without(all)
	}
	return all, len(text) - len(rest) + 1, api.OK
}

func checkAgainstSlow(t *testing.T, text string) {
	t.Helper()
	wantS, wantNext, wantE := slowParse(text)
	for range 2 {
		if s, next, e := Parse(text, 0); s != wantS || next != wantNext || e != wantE {
			t.Fatalf("Parse(%q, 0) = %x, %d, %d, want %x, %d, %d", text, s, next, e, wantS, wantNext, wantE)
		}
	}
}

// Every text of up to seven of the bytes that mean something.
func TestParseOfAllShortTexts(t *testing.T) {
	const bytes = "[]^-.:=a"
	var grow func(text string, more int)
	grow = func(text string, more int) {
		checkAgainstSlow(t, text)
		if more == 0 {
			return
		}
		for i := range len(bytes) {
			grow(text+bytes[i:i+1], more-1)
		}
	}
	grow("[", 6)
	grow("[a-", 5)
	grow("[[.", 5)
	grow("[^]", 5)
}

// Longer texts, of pieces put together by chance.
func TestParseOfManyTexts(t *testing.T) {
	parts := []string{"[", "]", "^", "-", "-", "a", "c", "z", "0", "\n", "\\", "\x00", ".", ":", "=", "[:digit:]", "[:nix:]", "[=b=]", "[.b.]", "[.-.]", "[.].]", "[.ab.]", "[=", "[.", "[:", ".]", "a-c", "a-c-]"}
	chance := rand.New(rand.NewSource(2))
	for range 200000 {
		text := "["
		for range chance.Intn(12) {
			text += parts[chance.Intn(len(parts))]
		}
		checkAgainstSlow(t, text)
	}
}

// P1: any bytes at any place are answered.
func TestParseAnswersAtAllPlaces(t *testing.T) {
	chance := rand.New(rand.NewSource(1))
	for range 20000 {
		text := make([]byte, chance.Intn(20))
		for i := range text {
			text[i] = "[]^-.:=a\xff\x00["[chance.Intn(11)]
		}
		for at := -2; at <= len(text)+2; at++ {
			s, next, e := Parse(string(text), at)
			if e != api.OK && (s != (api.Set{}) || next != 0) {
				t.Fatalf("Parse(%q, %d) = %x, %d, %d: beside an error all is zero", text, at, s, next, e)
			}
			if e == api.OK && (next <= at+2 || next > len(text) || text[next-1] != ']') {
				t.Fatalf("Parse(%q, %d) = .., %d: no ] ahead of that place", text, at, next)
			}
		}
	}
}

// P1: long texts are answered too.
func TestParseOfLongTexts(t *testing.T) {
	const count = 1 << 20
	for _, c := range []struct {
		text string
		want api.Set
		e    api.Errno
	}{
		{"[" + strings.Repeat("a", count) + "]", setOf("a"), api.OK},
		{"[" + strings.Repeat("a-c", count) + "]", setOf("abc"), api.OK},
		{"[" + strings.Repeat("[.a.]", count) + "]", setOf("a"), api.OK},
		{"[" + strings.Repeat("[a", count) + "]", setOf("a["), api.OK},
		{"[" + strings.Repeat("[:", count), api.Set{}, api.ErrEnd},
		{strings.Repeat("[", count), api.Set{}, api.ErrEnd},
	} {
		next := len(c.text)
		if c.e != api.OK {
			next = 0
		}
		if s, n, e := Parse(c.text, 0); s != c.want || n != next || e != c.e {
			t.Errorf("Parse of %q.. = %x, %d, %d, want %x, %d, %d", c.text[:9], s, n, e, c.want, next, c.e)
		}
	}
}

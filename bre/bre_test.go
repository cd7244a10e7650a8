package bre

import (
	"fmt"
	"math/rand"
	"regexp"
	"strconv"
	"strings"
	"testing"

	"runnel/api"
	"runnel/bracket"
)

// setOf makes a set bit by bit, as DOC.md's section Words says where a byte's bit stands.
func setOf(text string) api.Set {
	var s api.Set
	for i := range len(text) {
		s[text[i]/64] |= 1 << (text[i] % 64)
	}
	return s
}

func without(s api.Set) api.Set {
	for i := range s {
		s[i] = ^s[i]
	}
	return s
}

// The parts, each with the fields that P4.1's table names, and no others.

func of(bytes string) api.Re     { return api.Re{Kind: api.KByte, Set: setOf(bytes)} }
func but(bytes string) api.Re    { return api.Re{Kind: api.KByte, Set: without(setOf(bytes))} }
func cat(parts ...api.Re) api.Re { return api.Re{Kind: api.KCat, Kids: parts} }
func backTo(k int) api.Re        { return api.Re{Kind: api.KBack, Group: k} }
func star(part api.Re) api.Re    { return times(part, 0, -1) }
func times(r api.Re, lo, hi int) api.Re {
	return api.Re{Kind: api.KRepeat, Lo: lo, Hi: hi, Kids: []api.Re{r}}
}
func group(k int, parts ...api.Re) api.Re {
	return api.Re{Kind: api.KGroup, Group: k, Kids: []api.Re{cat(parts...)}}
}

var bol, eol, dot = api.Re{Kind: api.KBol}, api.Re{Kind: api.KEol}, but("")

// each is a KCat of bytes that stand for themselves.
func each(bytes string) api.Re {
	r := cat()
	for i := range len(bytes) {
		r.Kids = append(r.Kids, of(bytes[i:i+1]))
	}
	return r
}

func same(a, b api.Re) bool {
	if a.Kind != b.Kind || a.Set != b.Set || a.Lo != b.Lo || a.Hi != b.Hi || a.Group != b.Group || len(a.Kids) != len(b.Kids) {
		return false
	}
	for i := range a.Kids {
		if !same(a.Kids[i], b.Kids[i]) {
			return false
		}
	}
	return true
}

type reads struct {
	text string
	want api.Re
}

func checkReads(t *testing.T, list ...reads) {
	t.Helper()
	for _, c := range list {
		if r, f := Parse(c.text); !same(r, c.want) || f != (api.Fault{}) {
			t.Errorf("Parse(%q) = %v, %v, want %v", c.text, r, f, c.want)
		}
	}
}

// checkRefused holds the fault of each text against an error and its place; the tree beside it is zero.
func checkRefused(t *testing.T, e api.Errno, places map[string]int) {
	t.Helper()
	for text, at := range places {
		if r, f := Parse(text); f != (api.Fault{E: e, At: at}) || !same(r, api.Re{}) {
			t.Errorf("Parse(%q) = %v, %v, want error %d at %d", text, r, f, e, at)
		}
	}
}

// P4.1.

func TestTheChaptersExamples(t *testing.T) {
	checkReads(t,
		reads{`ab*`, cat(of("a"), star(of("b")))},
		reads{`*a`, cat(of("*"), of("a"))},
		reads{`^*a`, cat(bol, of("*"), of("a"))},
		reads{`a**`, cat(star(star(of("a"))))},
		reads{`a^b$c`, each("a^b$c")},
		reads{`\(^a$\)`, cat(group(1, bol, of("a"), eol))},
		reads{`a\{2,3\}`, cat(times(of("a"), 2, 3))},
		reads{``, cat()},
		reads{`\(a\)\1`, cat(group(1, of("a")), backTo(1))},
		reads{`a\{255\}b`, cat(times(of("a"), 255, 255), of("b"))},
	)
	checkRefused(t, api.ErrBack, map[string]int{`\(a\1\)`: 3, `\1`: 0})
	checkRefused(t, api.ErrEnd, map[string]int{`a\`: 1, `[a`: 0})
	checkRefused(t, api.ErrParen, map[string]int{`\(a`: 0, `a\)`: 1})
	checkRefused(t, api.ErrRepeat, map[string]int{`\{2\}`: 0, `a\{2`: 1, `a\{3,2\}`: 1, `a\{256\}`: 1})
	checkRefused(t, api.ErrEscape, map[string]int{`\w`: 0})
	checkRefused(t, api.ErrTooBig, map[string]int{`a\{255\}bc`: 9, `\(a\{16\}\)\{17\}`: 11})
}

func TestDotsAndBracketExpressions(t *testing.T) {
	checkReads(t,
		reads{`.`, cat(dot)},
		reads{`.*`, cat(star(dot))},
		reads{`a.b`, cat(of("a"), dot, of("b"))},
		reads{`..`, cat(dot, dot)},
		reads{`[a]`, cat(of("a"))},
		reads{`[abc]d`, cat(of("abc"), of("d"))},
		reads{`x[^a]`, cat(of("x"), but("a"))},
		reads{`[]a]`, cat(of("]a"))},
		reads{`[]a]]`, cat(of("]a"), of("]"))},
		reads{`[^]]`, cat(but("]"))},
		reads{`[[:digit:]]*`, cat(star(of("0123456789")))},
		reads{`[a-c]\{3\}`, cat(times(of("abc"), 3, 3))},
		reads{`[\n]`, cat(of(`\n`))},
		reads{`[\]]`, cat(of(`\`), of("]"))},
		reads{`[*]`, cat(of("*"))},
		reads{`[.]`, cat(of("."))},
		reads{`[$]`, cat(of("$"))},
		reads{`[a^]`, cat(of("a^"))},
		reads{`[\(]`, cat(of(`\(`))},
		reads{`[\{]`, cat(of(`\{`))},
		reads{`\([)]\)`, cat(group(1, of(")")))},
		reads{`\([\)]\)`, cat(group(1, of(`\)`)))},
		reads{`[[.].]]`, cat(of("]"))},
		reads{`[[=]=]]x`, cat(of("]"), of("x"))},
		reads{"[^\x00-\xff]", cat(of(""))},
		reads{"[\x00-\xff]", cat(dot)},
		reads{"[a\nb]", cat(of("a\nb"))},
		reads{`[a][b]`, cat(of("a"), of("b"))},
	)
}

func TestGroups(t *testing.T) {
	a, b := of("a"), of("b")
	checkReads(t,
		reads{`\(\)`, cat(group(1))},
		reads{`\(a\)`, cat(group(1, a))},
		reads{`\(ab\)`, cat(group(1, a, b))},
		reads{`a\(b\)a`, cat(a, group(1, b), a)},
		reads{`\(a\)\(b\)`, cat(group(1, a), group(2, b))},
		reads{`\(\(a\)b\)`, cat(group(1, group(2, a), b))},
		reads{`\(a\(b\)\)`, cat(group(1, a, group(2, b)))},
		reads{`\(\(\(\)\)\)`, cat(group(1, group(2, group(3))))},
		reads{`\(\(a\)\(b\)\)\(a\)`, cat(group(1, group(2, a), group(3, b)), group(4, a))},
		reads{`\(a\(b\(a\)b\)a\)b\(\)`, cat(group(1, a, group(2, b, group(3, a), b), a), b, group(4))},
		reads{`\(a\)*`, cat(star(group(1, a)))},
		reads{`\(\)*`, cat(star(group(1)))},
		reads{`\(a*\)*`, cat(star(group(1, star(a))))},
		reads{`\(a\)\{2,3\}b`, cat(times(group(1, a), 2, 3), b)},
		reads{`\(\(a\)*b\)*`, cat(star(group(1, star(group(2, a)), b)))},
		reads{`\(.\)`, cat(group(1, dot))},
		reads{`(a)`, each("(a)")},
		reads{`\(a)\)`, cat(group(1, a, of(")")))},
	)
}

func TestBackReferences(t *testing.T) {
	a := of("a")
	checkReads(t,
		reads{`\(\)\1`, cat(group(1), backTo(1))},
		reads{`\(a\)\1\1`, cat(group(1, a), backTo(1), backTo(1))},
		reads{`\(a\)\1*`, cat(group(1, a), star(backTo(1)))},
		reads{`\(a\)\1\{2\}`, cat(group(1, a), times(backTo(1), 2, 2))},
		reads{`\(a\)*\1`, cat(star(group(1, a)), backTo(1))},
		reads{`\(a\)\12`, cat(group(1, a), backTo(1), of("2"))},
		reads{`\(a\)\10`, cat(group(1, a), backTo(1), of("0"))},
		reads{`\(a\)\(\1\)`, cat(group(1, a), group(2, backTo(1)))},
		reads{`\(\(a\)\2\)`, cat(group(1, group(2, a), backTo(2)))},
		reads{`\(\(a\)\2\)\1\2`, cat(group(1, group(2, a), backTo(2)), backTo(1), backTo(2))},
		reads{`\(\(a\)\(\2\)\3\)`, cat(group(1, group(2, a), group(3, backTo(2)), backTo(3)))},
		reads{`\(a\)\(a\)\2\1`, cat(group(1, a), group(2, a), backTo(2), backTo(1))},
	)
	checkRefused(t, api.ErrBack, map[string]int{
		`\2`: 0, `\9`: 0, `a\1`: 1, `^\1`: 1, `\(\1\)`: 2, `\(\1`: 2, `\(a\)\2`: 5, `\(a\)\1\2`: 7, `\(a\)\9`: 5,
		`\(\(a\)\1\)`: 7, `\(\(a\)\1\2\)`: 7, `\(\(a\)\2\)\3`: 11, `\(a\)\(\2\)`: 7, `\(a\)\(b\(c\2\)\)`: 11,
		`\1\(a\)`: 0, `\(a\)\2\(b\)`: 5, `\1*`: 0, `\1\`: 0, `x*\3`: 2,
	})
	for k := 1; k <= 9; k++ {
		for count := range 10 {
			text := strings.Repeat(`\(a\)`, count) + `\` + strconv.Itoa(k)
			if k <= count {
				r, f := Parse(text)
				if f != (api.Fault{}) || len(r.Kids) != count+1 || !same(r.Kids[count], backTo(k)) {
					t.Errorf("Parse(%q) = %v, %v", text, r, f)
				}
			} else {
				checkRefused(t, api.ErrBack, map[string]int{text: 5 * count})
			}
		}
	}
}

func TestRepeats(t *testing.T) {
	a := of("a")
	checkReads(t,
		reads{`a*`, cat(star(a))},
		reads{`a*a*`, cat(star(a), star(a))},
		reads{`aa*`, cat(a, star(a))},
		reads{`a***`, cat(star(star(star(a))))},
		reads{`a*\{2\}`, cat(times(star(a), 2, 2))},
		reads{`a\{2\}*`, cat(star(times(a, 2, 2)))},
		reads{`a\{2\}\{3,\}`, cat(times(times(a, 2, 2), 3, -1))},
		reads{`a\{0,1\}\{1,4\}*b`, cat(star(times(times(a, 0, 1), 1, 4)), of("b"))},
		reads{`\(a*\)\{2\}*`, cat(star(times(group(1, star(a)), 2, 2)))},
		reads{`\n*`, cat(star(of("\n")))},
		reads{`\.*`, cat(star(of(".")))},
		reads{`a+?|`, each("a+?|")},
	)
	deep := a
	for range 511 {
		deep = star(deep)
	}
	checkReads(t, reads{"a" + strings.Repeat("*", 511), cat(deep)})
}

func TestIntervals(t *testing.T) {
	a := of("a")
	for lo := range 256 {
		checkReads(t,
			reads{fmt.Sprintf(`a\{%d\}`, lo), cat(times(a, lo, lo))},
			reads{fmt.Sprintf(`a\{%d,\}`, lo), cat(times(a, lo, -1))},
		)
		for hi := range 256 {
			text := fmt.Sprintf(`a\{%d,%d\}b`, lo, hi)
			if hi < lo {
				checkRefused(t, api.ErrRepeat, map[string]int{text: 1})
			} else {
				checkReads(t, reads{text, cat(times(a, lo, hi), of("b"))})
			}
		}
	}
	checkReads(t,
		reads{`a\{00\}`, cat(times(a, 0, 0))},
		reads{`a\{007,0010\}`, cat(times(a, 7, 10))},
		reads{`a\{` + strings.Repeat("0", 400) + `3,\}`, cat(times(a, 3, -1))},
		reads{`^a\{2\}$`, cat(bol, times(a, 2, 2), eol)},
		reads{`\*\{2\}`, cat(times(of("*"), 2, 2))},
		reads{`*\{2\}`, cat(times(of("*"), 2, 2))},
		reads{`a^\{2\}`, cat(a, times(of("^"), 2, 2))},
		reads{`$\{2\}`, cat(times(of("$"), 2, 2))},
		reads{`a{2}`, each("a{2}")},
		reads{`{`, each("{")},
		reads{`}`, each("}")},
	)
}

// P4.2.

func TestAStarThatIsAByte(t *testing.T) {
	a, b := of("a"), of("*")
	checkReads(t,
		reads{`*`, cat(b)},
		reads{`**`, cat(star(b))},
		reads{`***`, cat(star(star(b)))},
		reads{`^*`, cat(bol, b)},
		reads{`^**`, cat(bol, star(b))},
		reads{`\(*\)`, cat(group(1, b))},
		reads{`\(**\)`, cat(group(1, star(b)))},
		reads{`\(^*\)`, cat(group(1, bol, b))},
		reads{`\(^**\)`, cat(group(1, bol, star(b)))},
		reads{`a\(*\)`, cat(a, group(1, b))},
		reads{`\(\(*a\)\)`, cat(group(1, group(2, b, a)))},
		reads{`\(a\)\(*\)*`, cat(group(1, a), star(group(2, b)))},
		reads{`\*`, cat(b)},
		reads{`a\*`, cat(a, b)},
		reads{`a\**`, cat(a, star(b))},
	)
}

func TestAStarThatIsARepeat(t *testing.T) {
	a := of("a")
	checkReads(t,
		reads{`a*`, cat(star(a))},
		reads{`.*`, cat(star(dot))},
		reads{`[a]*`, cat(star(a))},
		reads{`^^*`, cat(bol, star(of("^")))},
		reads{`a^*`, cat(a, star(of("^")))},
		reads{`$*`, cat(star(of("$")))},
		reads{`^$*`, cat(bol, star(of("$")))},
		reads{`a$*`, cat(a, star(of("$")))},
		reads{`\($*\)`, cat(group(1, star(of("$"))))},
		reads{`\^*`, cat(star(of("^")))},
		reads{`\$*`, cat(star(of("$")))},
		reads{`\\*`, cat(star(of(`\`)))},
		reads{`(*`, cat(star(of("(")))},
		reads{`\(*a*\)*`, cat(star(group(1, of("*"), star(a))))},
		reads{`^a*`, cat(bol, star(a))},
	)
}

func TestCarets(t *testing.T) {
	a, b := of("a"), of("^")
	checkReads(t,
		reads{`^`, cat(bol)},
		reads{`^a`, cat(bol, a)},
		reads{`^^`, cat(bol, b)},
		reads{`^^^`, cat(bol, b, b)},
		reads{`\(^\)`, cat(group(1, bol))},
		reads{`a\(^a\)`, cat(a, group(1, bol, a))},
		reads{`\(^^\)`, cat(group(1, bol, b))},
		reads{`^\(^a\)`, cat(bol, group(1, bol, a))},
		reads{`\(\(^\)\)`, cat(group(1, group(2, bol)))},
		reads{`\(a\)^`, cat(group(1, a), b)},
		reads{`\(\)^`, cat(group(1), b)},
		reads{`\(a^\)`, cat(group(1, a, b))},
		reads{`\(a\)\1^`, cat(group(1, a), backTo(1), b)},
		reads{`a^`, cat(a, b)},
		reads{`a*^`, cat(star(a), b)},
		reads{`*^`, cat(of("*"), b)},
		reads{`$^`, cat(of("$"), b)},
		reads{`.^`, cat(dot, b)},
		reads{`[a]^`, cat(a, b)},
		reads{"\n^", cat(of("\n"), b)},
		reads{`\n^`, cat(of("\n"), b)},
		reads{`(^`, cat(of("("), b)},
		reads{`\\(^`, cat(of(`\`), of("("), b)},
		reads{`\^`, cat(b)},
		reads{`\^a`, cat(b, a)},
		reads{`\(\^\)`, cat(group(1, b))},
	)
}

func TestDollars(t *testing.T) {
	a, b := of("a"), of("$")
	checkReads(t,
		reads{`$`, cat(eol)},
		reads{`a$`, cat(a, eol)},
		reads{`^$`, cat(bol, eol)},
		reads{`$$`, cat(b, eol)},
		reads{`$$$`, cat(b, b, eol)},
		reads{`*$`, cat(of("*"), eol)},
		reads{`a*$`, cat(star(a), eol)},
		reads{`\($\)`, cat(group(1, eol))},
		reads{`\(a$\)`, cat(group(1, a, eol))},
		reads{`\(a$\)$`, cat(group(1, a, eol), eol)},
		reads{`\($$\)`, cat(group(1, b, eol))},
		reads{`\(^$\)`, cat(group(1, bol, eol))},
		reads{`\(\(a$\)$\)`, cat(group(1, group(2, a, eol), eol))},
		reads{`\(a$\)b`, cat(group(1, a, eol), of("b"))},
		reads{`\(a$\)*`, cat(star(group(1, a, eol)))},
		reads{`$a`, cat(b, a)},
		reads{`a$b`, cat(a, b, of("b"))},
		reads{`$)`, cat(b, of(")"))},
		reads{`$\\)`, cat(b, of(`\`), of(")"))},
		reads{`$\(\)`, cat(b, group(1))},
		reads{`\(a\)$\1`, cat(group(1, a), b, backTo(1))},
		reads{"$\n", cat(b, of("\n"))},
		reads{`$\n`, cat(b, of("\n"))},
		reads{`$\$`, cat(b, b)},
		reads{`\$`, cat(b)},
		reads{`a\$`, cat(a, b)},
		reads{`\(\$\)`, cat(group(1, b))},
		reads{`\\$`, cat(of(`\`), eol)},
		reads{`\(a\)$`, cat(group(1, a), eol)},
		reads{`[$]$`, cat(b, eol)},
	)
}

func TestEveryByte(t *testing.T) {
	for b := range 256 {
		one := string([]byte{byte(b)})
		if strings.Contains(`\[.*^$`, one) {
			continue
		}
		checkReads(t,
			reads{one, cat(of(one))},
			reads{"x" + one + "y", cat(of("x"), of(one), of("y"))},
			reads{"^" + one + "$", cat(bol, of(one), eol)},
			reads{`\(` + one + `\)`, cat(group(1, of(one)))},
			reads{one + "*", cat(star(of(one)))},
			reads{one + `\{2\}`, cat(times(of(one), 2, 2))},
		)
	}
	checkReads(t, reads{"é", each("\xc3\xa9")}, reads{"a/]b-,:", each("a/]b-,:")}, reads{"a\nb", each("a\nb")})
}

func TestABackslashAheadOfEveryByte(t *testing.T) {
	const letters = "abcdefghijklmnopqrstuvwxyzABCDEFGHIJKLMNOPQRSTUVWXYZ"
	for b := range 256 {
		one := string([]byte{byte(b)})
		escaped := `\` + one
		switch {
		case one == "n":
			one = "\n"
		case strings.Contains(letters, one) || one == "0":
			checkRefused(t, api.ErrEscape, map[string]int{escaped: 0, "x" + escaped: 1, "^" + escaped: 1, `\(` + escaped + `\)`: 2, escaped + "*": 0, `\(a\)` + escaped: 5})
			continue
		case strings.Contains("(){}123456789", one):
			continue
		}
		checkReads(t,
			reads{escaped, cat(of(one))},
			reads{"x" + escaped + "y", cat(of("x"), of(one), of("y"))},
			reads{"^" + escaped, cat(bol, of(one))},
			reads{`\(` + escaped + `\)`, cat(group(1, of(one)))},
			reads{escaped + "*", cat(star(of(one)))},
			reads{"x*" + escaped + `\{2,\}`, cat(star(of("x")), times(of(one), 2, -1))},
			reads{escaped + "$", cat(of(one), eol)},
		)
	}
	checkRefused(t, api.ErrParen, map[string]int{`\(`: 0, `\)`: 0})
	checkRefused(t, api.ErrRepeat, map[string]int{`\{`: 0, `\}`: 0})
	checkReads(t, reads{`\\n`, each(`\n`)}, reads{`\\\n`, each("\\\n")}, reads{`\[a]`, each("[a]")}, reads{`\\\(\)`, cat(of(`\`), group(1))})
}

// P4.3.

func TestFaultsOfBracketExpressions(t *testing.T) {
	checkRefused(t, api.ErrEnd, map[string]int{`[`: 0, `[]`: 0, `[^]`: 0, `ab[`: 2, `[a]x[b`: 4, `\([a\)`: 2, `a*[`: 2, `[[:digit`: 0, `x[[.`: 1, `[a\`: 0})
	checkRefused(t, api.ErrClass, map[string]int{`[[:nix:]]`: 0, `a[[.ab.]]`: 1, `\(\)[b[=cd=]]`: 4, `^[[:nix:]`: 1})
	checkRefused(t, api.ErrRange, map[string]int{`[c-a]`: 0, `ab[a-c-e]`: 2, `a\{2\}[[:digit:]-z]`: 6, `a[c-a`: 1})
}

func TestABackslashAtTheEnd(t *testing.T) {
	checkRefused(t, api.ErrEnd, map[string]int{`\`: 0, `ab\`: 2, `\\\`: 2, `^\`: 1, `a*\`: 2, `\(\`: 2, `\(a\`: 3, `\(a\)\`: 5, `a\{2\}\`: 6, `[a]\`: 3, `$\`: 1, `\n\`: 2})
}

func TestFaultsOfIntervals(t *testing.T) {
	at := map[string]int{}
	for _, inner := range []string{
		"", ",", ",2", ",2,", "2,3,", "2,,3", "2,3,4", "a", "2a", "a2", "2,a", "2,3a", " 2", "2 ", "2, 3", "2 ,3", "-1", "+1", "2,-1", "2,+3", "1,-", "2.0", "0x2",
		"3,2", "1,0", "255,254", "256", "256,", "0,256", "256,256", "256,255", "300", "1000", "2560", "99999999999999999999", "18446744073709551617", "0,18446744073709551617", "4294967297", "0256",
		"2\n", "\n2", "2\x00", "٣", "2\\", "\\2", "2\\,3", "[2]", "(2)", "2}", "{2",
	} {
		at[`a\{`+inner+`\}`] = 1
		at[`xy*\{`+inner+`\}z`] = 3
		at[`\(a\)\{`+inner+`\}`] = 5
	}
	for _, open := range []string{"", "2", "2,", "2,3", "2}", "2,3}", "2,}", `2\`, `2,\`, `2,3\`, `2\{`, `2\(`, `2\)`, `2\]`, `2a`, `2,b`, "25", `2\\}`, `2\\\}`, `\`} {
		at[`a\{`+open] = 1
		at[`\(a\{`+open] = 3
	}
	checkRefused(t, api.ErrRepeat, at)
}

func TestNothingToRepeat(t *testing.T) {
	checkRefused(t, api.ErrRepeat, map[string]int{
		`\{2\}`: 0, `\{2\}a`: 0, `\{2,3\}`: 0, `\{`: 0, `\{a`: 0, `^\{2\}`: 1, `^\{2,\}a`: 1, `^\{`: 1,
		`\(\{2\}\)`: 2, `\(\{2\}`: 2, `\(^\{2\}\)`: 3, `a\(\{1\}a\)`: 3, `\(a\(\{1\}a\)\)`: 5, `a\(^\{1\}a\)`: 4,
	})
}

func TestAClosingBraceElsewhere(t *testing.T) {
	checkRefused(t, api.ErrRepeat, map[string]int{`\}`: 0, `a\}`: 1, `^\}`: 1, `a*\}`: 2, `\(\}\)`: 2, `a\{2\}\}`: 6, `a\{2\}b\}`: 7, `\(a\)\}`: 5, `{2\}`: 2, `\\{2\}`: 4})
}

func TestParens(t *testing.T) {
	checkRefused(t, api.ErrParen, map[string]int{
		`\)`: 0, `a\)`: 1, `\)a`: 0, `^\)`: 1, `$\)`: 1, `a*\)`: 2, `\(a\)\)`: 5, `\(\)\)\)`: 4, `\)\(`: 0, `\(\)a\)\(`: 5, `(\)`: 1, `\\(\)`: 3,
		`\(`: 0, `\(a`: 0, `a\(`: 1, `\(\(`: 2, `\(\(a\)`: 0, `\(a\(b`: 3, `\(a\)\(`: 5, `\(a\)\(b`: 5, `\(\(\)\(`: 6, `a\(\(\)\(\)b`: 1, `\(a)`: 0, `\(a\\)`: 0, `\([\)]`: 0, `\(a$`: 0, `\(^`: 0, `\(*`: 0,
		`\(\(\(\(\(\(\(\(\(`: 16,
	})
}

func TestEscapesOfNothing(t *testing.T) {
	checkRefused(t, api.ErrEscape, map[string]int{`\w`: 0, `\N`: 0, `a\t`: 1, `\0`: 0, `\(a\)\0`: 5, `^\d`: 1, `\(\s\)`: 2, `a*\x41`: 2, `\n\b`: 2, `\\\z`: 2, `\Q\`: 0})
}

// The first fault from the front is the answer.
func TestTwoFaults(t *testing.T) {
	checkRefused(t, api.ErrEnd, map[string]int{`[\w`: 0, `a[\)`: 1, `\([`: 2, `\(\`: 2})
	checkRefused(t, api.ErrEscape, map[string]int{`\w[`: 0, `\w\`: 0, `\(\w`: 2, `a\w\)`: 1, `\w\{`: 0, `\w\1`: 0, `\w` + strings.Repeat("a", 300): 0})
	checkRefused(t, api.ErrRepeat, map[string]int{`\{\w`: 0, `a\{2\w`: 1, `a\{2[`: 1, `a\{2\`: 1, `\(a\{`: 3, `\(a\{\)`: 3, `a\}\)`: 1, `\}\1`: 0, `a\{3,2\}[c-a]`: 1, `a\{256\}` + strings.Repeat("a", 300): 1})
	checkRefused(t, api.ErrParen, map[string]int{`\)[`: 0, `\)\`: 0, `a\)\w`: 1, `\)\1`: 0, `\)\{2\}`: 0, `\)` + strings.Repeat("a", 300): 0})
	checkRefused(t, api.ErrBack, map[string]int{`\1\)`: 0, `\(\1[`: 2, `\1\{`: 0, `\2\w`: 0, `\(a\1`: 3, `\(\(\1\2`: 4, `\1` + strings.Repeat("a", 300): 0})
	checkRefused(t, api.ErrClass, map[string]int{`[[:nix:]][c-a]`: 0, `[[:nix:]]\)`: 0, `\([[:nix:]]`: 2})
	checkRefused(t, api.ErrRange, map[string]int{`[c-a][[:nix:]]`: 0, `[c-a]\{`: 0, `\([c-a]`: 2})
	checkRefused(t, api.ErrFull, map[string]int{strings.Repeat(`\(`, 10): 18, strings.Repeat(`\(`, 9) + `\(\w`: 18, strings.Repeat(`\(\)`, 9) + `\(\)\)`: 36})
	long := strings.Repeat("a", 256)
	checkRefused(t, api.ErrTooBig, map[string]int{long + "b[": 256, long + `b\`: 256, long + `b\{`: 256, long + `b\)`: 256, long + `b\9`: 256, `\(` + long + "b": 258})
	// What is at fault in itself is no matter of positions.
	checkRefused(t, api.ErrBack, map[string]int{long + `\1`: 256, `\(` + long + `\1\)`: 258})
	checkRefused(t, api.ErrRange, map[string]int{long + `[c-a]`: 256})
	checkRefused(t, api.ErrEscape, map[string]int{long + `\w`: 256})
	checkRefused(t, api.ErrRepeat, map[string]int{long + `\{3,2\}`: 256})
}

// MaxBre.

func TestLongTexts(t *testing.T) {
	brackets := "[" + strings.Repeat("a", 510) + "]"
	checkReads(t, reads{brackets, cat(of("a"))}, reads{strings.Repeat(`\n`, 256), each(strings.Repeat("\n", 256))})
	for _, at := range []string{"", "a", "[", `\`, `\w`, `\1`, `\)`, `[c-a]`} {
		for _, length := range []int{513, 514, 1000, 100000} {
			text := at + strings.Repeat("a", length-len(at))
			checkRefused(t, api.ErrLong, map[string]int{text: 0, strings.Repeat("a", length-len(at)) + at: 0})
		}
	}
	checkRefused(t, api.ErrLong, map[string]int{brackets + "a": 0, brackets + "*": 0, "[" + strings.Repeat("a", 512): 0, strings.Repeat("*", 513): 0})
	checkRefused(t, api.ErrEnd, map[string]int{"[" + strings.Repeat("a", 511): 0})
	checkRefused(t, api.ErrTooBig, map[string]int{strings.Repeat("a", 512): 256})
}

// MaxGroups.

func TestManyGroups(t *testing.T) {
	row := cat()
	for k := 1; k <= 9; k++ {
		row.Kids = append(row.Kids, group(k))
	}
	nest := cat(group(9))
	for k := 8; k >= 1; k-- {
		nest = cat(group(k, nest.Kids...))
	}
	opens, closes := strings.Repeat(`\(`, 9), strings.Repeat(`\)`, 9)
	checkReads(t, reads{strings.Repeat(`\(\)`, 9), row}, reads{opens + closes, nest})
	checkRefused(t, api.ErrFull, map[string]int{
		strings.Repeat(`\(\)`, 10):                   36,
		strings.Repeat(`\(\)`, 9) + `a\(`:            37,
		strings.Repeat(`\(\)`, 9) + `\(`:             36,
		`\(` + opens + closes + `\)`:                 18,
		opens + closes + `ab\(\)`:                    38,
		opens + `\)\(`:                               20,
		strings.Repeat(`\(\)`, 8) + `\(\(\)\)`:       34,
		`^` + strings.Repeat(`\(a\)*`, 9) + `\(a\)*`: 55,
	})
}

// MaxRe.

func TestManyPositions(t *testing.T) {
	full := strings.Repeat("a", 256)
	halves := `\(` + strings.Repeat("a", 127) + `\)` + strings.Repeat("b", 128)
	for _, text := range []string{
		full, strings.Repeat("[a]", 170), strings.Repeat(".", 256), strings.Repeat(`\n`, 256), full + "*", full + `\{1\}`, full + `\{0,1\}`, full + `\{1,\}`, full + `\{0\}a`, full + `\{0,\}`, "^" + full + "$", `\(^` + full + `$\)`,
		`a\{255\}b`, `a\{0,255\}b`, `a\{255,255\}b`, `a\{255,\}b`, `ba\{255,\}`, `a\{16\}\{16\}`, `a\{16,\}\{16,\}`, `a\{1,16\}\{0,16\}`, `\(a\{16\}\)\{16\}`, `\(a\{15\}b\)\{16\}`, `\(ab\)\{128\}`, `\(\(ab\)\{2\}\)\{64\}`,
		`\(a\{255\}b\)*`, `\(a\{255\}b\)**`, `\(a\{255\}b\)*\{1\}`, `a*\{255\}b`, `a\{0\}\{255\}\{255\}\{255\}`, `\(\)\{255\}\{255\}\{255\}` + full, `\(^$\)\{255\}` + full, `a\{255\}b\{0\}b`, `\(a\{128\}\)\{0\}` + full,
		halves + `\1`, `\(a\)\1\{255\}`, `\(a\)` + strings.Repeat(`\1`, 200), `\(a\{127\}\)\1b\{128\}`, `a\{255\}\(*\)`, `a\{255\}\(^*\)`, `*\{255\}a`, `a\{255\}[a]*`, `a\{254\}\(b\)\1`, `a\{255\}b\{1,\}`, `a\{255\}b\{0,1\}`,
		`\(a*\)\{128\}\(b\{0,\}\)\{128\}`, `\(a\{2\}b\{3,\}\)\{51\}x`, `\(a\{2\}b\{3,\}\)\{51,\}x`, `a\{254\}b\{2\}`, `a\{254\}\(b\)\{2\}`, `\(a\{128\}\(b\{127\}c\)\)`,
	} {
		if r, f := Parse(text); f != (api.Fault{}) || positions(r) > 256 {
			t.Errorf("Parse(%q) = .., %v, with %d positions", text, f, positions(r))
		}
	}
	checkRefused(t, api.ErrTooBig, map[string]int{
		// a byte
		full + "b": 256, full + ".": 256, full + `\n`: 256, full + `\.`: 256, full + "*b": 257, full + "bc": 256, full + `\(b\)`: 258, `\(` + full + `\)b`: 260, `\(` + full + "b": 258, full + "^": 256, full + "$a": 256,
		`a\{255\}\{1\}bc`: 14, `a\{255\}\(*b`: 11, `a\{255\}b\(*\)`: 11, `a\{255\}b\(^*\)`: 12, `a\{255\}b\(*`: 11, `\(\(a\{200\}\)b\{50\}c\{6\}d`: 27,
		// a bracket expression
		full + "[a]": 256, full + "[^abc]*": 256, `a\{255\}[a][b]`: 11, `\(a\{255\}[b-d][a]`: 15, full + `\{1\}[[:digit:]]`: 261,
		// a back-reference
		halves + `b\1`: 260, halves + `\1\1`: 261, `\(a\{255\}b\)\1`: 13, `\(a\{255\}\)\1\1`: 14, `\(\(a\{255\}b\)\2`: 15,
		// an interval
		full + `\{2\}`: 256, full + `\{2,\}`: 256, full + `\{0,2\}`: 256, `a\{255\}\{2\}`: 8, `a\{16\}\{17\}`: 7, `a\{16\}\{0,17\}`: 7, `a\{16\}\{17,\}`: 7, `ab\{254\}c\{2\}`: 10, `a\{254\}b\{3\}`: 9, `a\{254\}\(b\)\{3\}`: 13,
		`\(ab\)\{129\}`: 6, `\(a\{2\}b\{3\}\)\{52\}`: 16, `\(a\{2\}b\{3,\}\)\{51\}xy`: 24, `\(a\)\1\{255\}\{2\}`: 14, `*\{255\}\{2\}`: 8, `a*\{255\}\{2\}`: 9, `\(a\{128\}\(b\{127\}\{2\}`: 20, `[ab]\{128\}\{3\}`: 11, `a\{0,128\}\{0,3\}`: 10,
	})
}

// positions counts the positions of a tree.
func positions(r api.Re) int {
	count := 0
	for _, kid := range r.Kids {
		count += positions(kid)
	}
	switch {
	case r.Kind == api.KByte || r.Kind == api.KBack:
		return 1
	case r.Kind == api.KRepeat && r.Hi >= 0:
		return count * r.Hi
	case r.Kind == api.KRepeat && r.Lo > 0:
		return count * r.Lo
	}
	return count
}

// Too many positions stay too many, though what follows would take them back.
func TestPositionsThatWouldGoAgain(t *testing.T) {
	full := strings.Repeat("a", 256)
	checkRefused(t, api.ErrTooBig, map[string]int{full + `b\{0\}`: 256, `\(` + full + `b\)\{0\}`: 258, full + `\(b\)\{0\}`: 258, full + `\{2\}\{0\}`: 256})
	checkReads(t, reads{`\(a\{0\}\)\{255\}`, cat(times(group(1, times(of("a"), 0, 0)), 255, 255))})
}

// Memory.

// spoil overwrites a tree, and what lies behind its lists' lengths.
func spoil(r *api.Re) {
	kids := r.Kids[:cap(r.Kids)]
	for i := range kids {
		if i < len(r.Kids) {
			spoil(&kids[i])
		}
		kids[i] = api.Re{Kind: 99, Lo: 98, Hi: 97, Group: 96, Set: api.Set{95}}
	}
}

// spoilSpare overwrites what lies behind the lists' lengths alone.
func spoilSpare(r *api.Re) {
	for i := range r.Kids {
		spoilSpare(&r.Kids[i])
	}
	kids := r.Kids[:cap(r.Kids)]
	for i := len(r.Kids); i < len(kids); i++ {
		kids[i] = api.Re{Kind: 99, Lo: 98, Hi: 97, Group: 96, Set: api.Set{95}}
	}
}

func TestTreesShareNoMemory(t *testing.T) {
	for _, text := range []string{
		"a", "abc", "a*", "a**", `\(a\)`, `\(a\(b\)c\)d\1*`, `\(\)\(a\)\(ab\)\(abc\)\(abcd\)`, `\(\(\(abc\)*de\)\{2,3\}f\)*ghi`, `^a[bc]\{2\}.$`, `\(a*\)*\(b*\)*\1`,
		`\(abcde\)fg\(hijkl\(mno\)pqr\)st\(u\)`, `x\(\(\(a\)\)\)y\(\(\(b\)\)\)z`, strings.Repeat("ab*", 80),
	} {
		one, f := Parse(text)
		two, g := Parse(text)
		if f != (api.Fault{}) || f != g || !same(one, two) {
			t.Fatalf("Parse(%q) has the faults %v, %v", text, f, g)
		}
		spoil(&one)
		three, _ := Parse(text)
		if !same(two, three) {
			t.Errorf("two trees of %q share memory: %v, %v", text, two, three)
		}
		spoilSpare(&two)
		if !same(two, three) {
			t.Errorf("two lists of a tree of %q share memory: %v", text, two)
		}
	}
}

// node is a part of a tree that is built top down, with the groups that are still open in it.
type node struct {
	re   api.Re
	kids []*node
}

func (n *node) tree() api.Re {
	r := n.re
	for _, kid := range n.kids {
		r.Kids = append(r.Kids, kid.tree())
	}
	return r
}

var interval = regexp.MustCompile(`^\\\{([0-9]+)(?:(,)([0-9]*))?\\\}`)

// slowRepeat reads a repeat at a text's beginning: its length (0: it is none), and its numbers.
func slowRepeat(text string) (int, int, int) {
	if strings.HasPrefix(text, "*") {
		return 1, 0, -1
	}
	found := interval.FindStringSubmatch(text)
	if found == nil {
		return 0, 0, 0
	}
	lo, errLo := strconv.Atoi(found[1])
	hi, errHi := strconv.Atoi(found[3])
	if found[2] == "" {
		hi, errHi = lo, nil
	} else if found[3] == "" {
		hi, errHi = -1, nil
	}
	if errLo != nil || errHi != nil || lo > 255 || hi > 255 || hi >= 0 && hi < lo {
		return 0, 0, 0
	}
	return len(found[0]), lo, hi
}

// slowEscape reads a backslash and a byte that make a part by themselves.
func slowEscape(text string, closed []bool) (api.Re, api.Errno) {
	switch c := text[1]; {
	case c == 'n':
		return of("\n"), api.OK
	case c >= '1' && c <= '9' && closed[c-'0']:
		return backTo(int(c - '0')), api.OK
	case c >= '1' && c <= '9':
		return api.Re{}, api.ErrBack
	case regexp.MustCompile(`[0-9A-Za-z]`).MatchString(text[1:2]):
		return api.Re{}, api.ErrEscape
	}
	return of(text[1:2]), api.OK
}

// slowParse reads a BRE by looking at what stands in the tree so far; the whole tree is counted anew at each step.
func slowParse(text string) (api.Re, api.Fault) {
	if len(text) > 512 {
		return api.Re{}, api.Fault{E: api.ErrLong}
	}
	root := &node{}
	cats, places, closed, groups := []*node{root}, []int{0}, make([]bool, 10), 0
	for at := 0; at < len(text); {
		rest, top := text[at:], cats[len(cats)-1]
		first := len(top.kids) == 0
		bare := first || len(top.kids) == 1 && top.kids[0].re.Kind == api.KBol
		part, size, e := api.Re{}, 1, api.OK
		switch {
		case rest == `\`:
			e = api.ErrEnd
		case strings.HasPrefix(rest, `\(`):
			if groups++; groups == 10 {
				return api.Re{}, api.Fault{E: api.ErrFull, At: at}
			}
			inner := &node{}
			top.kids = append(top.kids, &node{api.Re{Kind: api.KGroup, Group: groups}, []*node{inner}})
			cats, places = append(cats, inner), append(places, at)
			at += 2
			continue
		case strings.HasPrefix(rest, `\)`):
			if len(cats) == 1 {
				return api.Re{}, api.Fault{E: api.ErrParen, At: at}
			}
			cats, places = cats[:len(cats)-1], places[:len(places)-1]
			kids := cats[len(cats)-1].kids
			closed[kids[len(kids)-1].re.Group] = true
			at += 2
			continue
		case strings.HasPrefix(rest, `\{`), strings.HasPrefix(rest, `\}`), rest[0] == '*' && !bare:
			length, lo, hi := slowRepeat(rest)
			if length == 0 || bare {
				return api.Re{}, api.Fault{E: api.ErrRepeat, At: at}
			}
			last := len(top.kids) - 1
			top.kids[last] = &node{api.Re{Kind: api.KRepeat, Lo: lo, Hi: hi}, []*node{top.kids[last]}}
			if positions(root.tree()) > 256 {
				return api.Re{}, api.Fault{E: api.ErrTooBig, At: at}
			}
			at += length
			continue
		case rest[0] == '\\':
			size = 2
			part, e = slowEscape(rest, closed)
		case rest[0] == '[':
			part.Kind = api.KByte
			part.Set, size, e = bracket.Parse(rest, 0)
		case rest[0] == '.':
			part = dot
		case rest[0] == '^' && first:
			part = bol
		case rest == "$", strings.HasPrefix(rest, `$\)`):
			part = eol
		default:
			part = of(rest[:1])
		}
		top.kids = append(top.kids, &node{re: part})
		if e == api.OK && positions(root.tree()) > 256 {
			e = api.ErrTooBig
		}
		if e != api.OK {
			return api.Re{}, api.Fault{E: e, At: at}
		}
		at += size
	}
	if len(cats) > 1 {
		return api.Re{}, api.Fault{E: api.ErrParen, At: places[len(places)-1]}
	}
	return root.tree(), api.Fault{}
}

func checkAgainstSlow(t *testing.T, text string) {
	t.Helper()
	want, fault := slowParse(text)
	for range 2 {
		if r, f := Parse(text); !same(r, want) || f != fault {
			t.Fatalf("Parse(%q) = %v, %v, want %v, %v", text, r, f, want, fault)
		}
	}
}

// Every text of up to five pieces that mean something, or half of something.
func TestParseOfAllShortTexts(t *testing.T) {
	pieces := []string{"a", "*", "^", "$", ".", `\(`, `\)`, `\{`, `\}`, `\1`, "1", ",", "[", "]", `\`}
	var grow func(text string, more int)
	grow = func(text string, more int) {
		checkAgainstSlow(t, text)
		if more == 0 {
			return
		}
		for _, piece := range pieces {
			grow(text+piece, more-1)
		}
	}
	grow("", 5)
	grow(`\(a\)`, 4)
	grow(`\(^\(b\)`, 4)
	grow(`a\{1`, 4)
}

// Longer texts, of pieces put together by chance: whole ones with now and then a broken one.
func TestParseOfManyTexts(t *testing.T) {
	whole := []string{"a", "b", ".", "*", "^", "$", "[ab]", "[^a]", `[\)]`, `\(`, `\(`, `\)`, `\)`, `\(a\)`, `\1`, `\2`, `\n`, `\.`, `\*`, `\{2\}`, `\{0,3\}`, `\{1,\}`, `\{0\}`, "{", ")", "0", "\n", "\xff"}
	broken := []string{`\`, `\w`, `\0`, `\9`, `\{`, `\}`, `\{,2\}`, `\{3,2\}`, `\{256\}`, "[", "[c-a]", "[[:nix:]]", strings.Repeat("a", 90), `\{255\}`, `\{20\}`}
	chance := rand.New(rand.NewSource(4))
	good := 0
	for range 150000 {
		text := ""
		for range chance.Intn(14) {
			if chance.Intn(25) == 0 {
				text += broken[chance.Intn(len(broken))]
			} else {
				text += whole[chance.Intn(len(whole))]
			}
		}
		checkAgainstSlow(t, text)
		if _, f := Parse(text); f.E == api.OK {
			good++
		}
	}
	if good < 10000 {
		t.Errorf("just %d texts were BREs", good)
	}
}

// P1: any bytes are answered, and beside a fault the tree is zero.
func TestParseAnswersAtAllTexts(t *testing.T) {
	chance := rand.New(rand.NewSource(5))
	for range 50000 {
		text := make([]byte, chance.Intn(40))
		for i := range text {
			if text[i] = byte(chance.Intn(256)); chance.Intn(3) > 0 {
				text[i] = `\\\(){}[]*^$.,1n0a`[chance.Intn(18)]
			}
		}
		r, f := Parse(string(text))
		if f.E == api.OK && f.At != 0 || f.E != api.OK && !same(r, api.Re{}) || f.At < 0 || f.At > len(text) {
			t.Fatalf("Parse(%q) = %v, %v", text, r, f)
		}
		checkAgainstSlow(t, string(text))
	}
}

// The tokens' iterator may be ranged over again and left early.
func TestTokensAgainAndAgain(t *testing.T) {
	given := tokens(`a\(b*\)`)
	count := func() int {
		n := 0
		for range given {
			n++
		}
		return n
	}
	for range given {
		break
	}
	if first, second := count(), count(); first != 5 || second != 5 {
		t.Errorf("%d tokens, then %d, want 5 each", first, second)
	}
	seen := 0
	for range tokens(`a\wb`) {
		seen++
	}
	if seen != 2 {
		t.Errorf("%d tokens, want the a and the fault", seen)
	}
}

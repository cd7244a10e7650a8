package canon

import (
	"math/rand"
	"strconv"
	"strings"
	"testing"
	"unsafe"

	"runnel/api"
	"runnel/bracket"
	"runnel/bre"
	"runnel/bset"
)

func same(a, b api.Re) bool {
	if a.Kind != b.Kind || a.Set != b.Set || a.Lo != b.Lo || a.Hi != b.Hi || a.Group != b.Group || len(a.Kids) != len(b.Kids) {
		return false
	}
	for i := range a.Kids {
		if !same(a.Kids[i], b.Kids[i]) {
			return false
		}
	}
	return true
}

// checkTexts holds the one text of each BRE against what it should be, and that against P5.3.
func checkTexts(t *testing.T, texts map[string]string) {
	t.Helper()
	for text, want := range texts {
		if one, f := Text(text); one != want || f != (api.Fault{}) {
			t.Errorf("Text(%q) = %q, %v, want %q", text, one, f, want)
		}
		checkReadBack(t, text)
	}
}

// checkReadBack holds a text that bre.Parse takes against P5.3.
func checkReadBack(t *testing.T, text string) {
	t.Helper()
	tree, f := bre.Parse(text)
	one, g := Text(text)
	if f != (api.Fault{}) || g != f {
		t.Fatalf("%q has the faults %v, %v", text, f, g)
	}
	if len(one) > api.MaxBre {
		return
	}
	if again, f := bre.Parse(one); f != (api.Fault{}) || !same(again, tree) {
		t.Fatalf("the one text %q of %q is read as %v, %v, want %v", one, text, again, f, tree)
	}
	if two, f := Text(one); two != one || f != (api.Fault{}) {
		t.Fatalf("the one text %q of %q has the one text %q, %v", one, text, two, f)
	}
}

// checkRefused holds the fault of each text against an error and its place, and against bre.Parse; the text beside it is empty.
func checkRefused(t *testing.T, e api.Errno, places map[string]int) {
	t.Helper()
	for text, at := range places {
		if one, f := Text(text); f != (api.Fault{E: e, At: at}) || one != "" {
			t.Errorf("Text(%q) = %q, %v, want error %d at %d", text, one, f, e, at)
		}
		if _, f := bre.Parse(text); f != (api.Fault{E: e, At: at}) {
			t.Errorf("bre.Parse(%q) has the fault %v, want error %d at %d", text, f, e, at)
		}
	}
}

func TestTheChaptersExamples(t *testing.T) {
	checkTexts(t, map[string]string{
		`[a]`: `a`, `[.]*`: `\.*`, `*a`: `\*a`, `a\{0,\}`: `a*`, `a\{2,2\}`: `a\{2\}`, `[[:digit:]]`: `[0-9]`, `x^$`: `x\^$`,
	})
	checkRefused(t, api.ErrParen, map[string]int{`\(`: 0})
}

// P5.1.

func TestEveryKindOfAPart(t *testing.T) {
	checkTexts(t, map[string]string{
		``: ``, `abc`: `abc`, `^`: `^`, `$`: `$`, `^$`: `^$`, `^a$`: `^a$`, `.`: `.`, `[ab]`: `[ab]`, `a*`: `a*`, `\(\)`: `\(\)`, `\(a\)`: `\(a\)`, `\(a\)\1`: `\(a\)\1`,
		`\(^a[bc]\{2,\}.\)*\1\n$`: `\(^a[bc]\{2,\}.\)*\1\n$`,
		`\(a\)\10`:                `\(a\)\10`,
		`\(a\)\1\{2\}\1*`:         `\(a\)\1\{2\}\1*`,
		`\(a\)*\1`:                `\(a\)*\1`,
	})
}

func TestBackReferencesOfEveryNumber(t *testing.T) {
	groups := strings.Repeat(`\(a\)`, 9)
	for k := 1; k <= 9; k++ {
		text := groups + `\` + strconv.Itoa(k)
		checkTexts(t, map[string]string{text: text, text + "*9": text + "*9", text + "[7]": text + "7"})
	}
}

func TestGroupsWithinGroups(t *testing.T) {
	checkTexts(t, map[string]string{
		`\(\(\)\)`:                       `\(\(\)\)`,
		`\(\(a\)[b]\)`:                   `\(\(a\)b\)`,
		`\([a]\(b\(\)\)\2\)\1`:           `\(a\(b\(\)\)\2\)\1`,
		`\(\(\([a]*\)*\)\{0,\}\)\{3,3\}`: `\(\(\(a*\)*\)*\)\{3\}`,
		`\(^\(^a$\)$\)`:                  `\(^\(^a$\)$\)`,
		`\(a\)\(b\(c\)\)\(\)`:            `\(a\)\(b\(c\)\)\(\)`,
		strings.Repeat(`\(`, 9) + "[x]" + strings.Repeat(`\)`, 9): strings.Repeat(`\(`, 9) + "x" + strings.Repeat(`\)`, 9),
		strings.Repeat(`\(\)`, 9):                                 strings.Repeat(`\(\)`, 9),
	})
}

func TestEveryInterval(t *testing.T) {
	checkTexts(t, map[string]string{
		`a\{0\}`: `a\{0\}`, `a\{0,0\}`: `a\{0\}`, `a\{0,1\}`: `a\{0,1\}`, `a\{1\}`: `a\{1\}`, `a\{1,\}`: `a\{1,\}`, `a\{1,1\}`: `a\{1\}`,
		`a\{00,\}`: `a*`, `a\{007\}`: `a\{7\}`, `a\{01,010\}`: `a\{1,10\}`, `a\{02,002\}`: `a\{2\}`,
	})
	for lo := range api.MaxDup + 1 {
		low := strconv.Itoa(lo)
		exact, open := `x\{`+low+`\}`, `x\{`+low+`,\}`
		if lo == 0 {
			open = "x*"
		}
		checkTexts(t, map[string]string{exact: exact, `x\{` + low + "," + low + `\}`: exact, `x\{` + low + `,\}`: open})
		for hi := lo + 1; hi <= api.MaxDup; hi++ {
			text := `x\{` + low + "," + strconv.Itoa(hi) + `\}`
			checkTexts(t, map[string]string{text: text})
		}
	}
}

func TestRepeatsOfRepeats(t *testing.T) {
	checkTexts(t, map[string]string{
		`a**`: `a**`, `a\{0,\}*`: `a**`, `a*\{0,\}`: `a**`, `a*\{2,2\}`: `a*\{2\}`, `a\{2\}*`: `a\{2\}*`, `a\{2,3\}\{4,\}\{0\}`: `a\{2,3\}\{4,\}\{0\}`,
		`\(a*\)*`: `\(a*\)*`, `\(a\{1,1\}\)\{1,1\}\{1,1\}`: `\(a\{1\}\)\{1\}\{1\}`, `[ab]*\{0,1\}*`: `[ab]*\{0,1\}*`,
		"a" + strings.Repeat("*", 511): "a" + strings.Repeat("*", 511),
	})
}

// P5.2.

func TestEachByteAlone(t *testing.T) {
	for b := range 256 {
		own := string([]byte{byte(b)})
		want := own
		switch b {
		case '\n':
			want = `\n`
		case '.', '[', ']', '*', '^', '$', '\\':
			want = `\` + own
		}
		// In [.c.], where each byte stands for itself, as in the middle of a text.
		marked := "[[." + own + ".]]"
		checkTexts(t, map[string]string{
			marked: want, "a" + marked + "b": "a" + want + "b", marked + "*": want + "*", `\(` + marked + `\)`: `\(` + want + `\)`, marked + marked: want + want,
			"^" + marked + "$": "^" + want + "$", `x\(` + marked + `\{2,2\}\)`: `x\(` + want + `\{2\}\)`, `\(x\)\1` + marked: `\(x\)\1` + want,
		})
	}
}

func TestBytesBehindABackslash(t *testing.T) {
	checkTexts(t, map[string]string{
		`\.`: `\.`, `\[`: `\[`, `\]`: `\]`, `\*`: `\*`, `\^`: `\^`, `\$`: `\$`, `\\`: `\\`, `\n`: `\n`, "\n": `\n`, "a\nb": `a\nb`, `]`: `\]`,
		`\-`: `-`, `\/`: `/`, `\,`: `,`, `\+`: `+`, `\?`: `?`, `\|`: `|`, `\&`: `&`, "\\\n": `\n`, "\\\x00": "\x00", "\\\xff": "\xff", `\ `: ` `,
		`\\n`: `\\n`, `\\\n`: `\\\n`, `\\(`: `\\(`, `\\{2}`: `\\{2}`, `\\1`: `\\1`, `(){}`: `(){}`, `a{2}`: `a{2}`, `[\]n`: `\\n`, `[\](a)`: `\\(a)`,
	})
}

func TestSets(t *testing.T) {
	checkTexts(t, map[string]string{
		".": ".", "[\x00-\xff]": ".", "[^\x00-\xff]": "[^\x00-\xff]", "[[:print:][:cntrl:]\x80-\xff]": ".", "..*": "..*",
		`[ab]`: `[ab]`, `[ba]`: `[ab]`, `[aab]`: `[ab]`, `[a-c]`: `[a-c]`, `[cba]`: `[a-c]`, `[a-b]`: `[ab]`, `[^b]`: "[\x00-,[.-.].-Z[.[.]\\[.].][.^.]_-ac-\xff]",
		`[]a]`: `[[.].]a]`, `[a^]`: `[[.^.]a]`, `[a-]`: `[[.-.]a]`, `[a[]`: `[[.[.]a]`, `[.*]`: `[*.]`, `[$.]`: `[$.]`, `[\n]`: `[\n]`, "[\na]": "[\na]", "[^\n]": "[\x00-\t\v-,[.-.].-Z[.[.]\\[.].][.^.]_-\xff]",
		`[[:alpha:]_]`: `[A-Z_a-z]`, `[[=a=]]`: `a`, `[[=a=][.b.]]`: `[ab]`, `[[.-.]-0]`: `[[.-.].-0]`, `[[:blank:]]*`: "[\t ]*",
		`[*]`: `\*`, `[$]`: `\$`, `[.]`: `\.`, `[\]`: `\\`, `[[]`: `\[`, `[]]`: `\]`, "[\n]": `\n`, `[n]`: `n`, `[(]`: `(`, `[{]`: `{`, `[-]`: `-`, `[[.^.]]`: `\^`, `[1]`: `1`,
		"[\xfe\xff]": "[\xfe\xff]", "[\x00\x01]": "[\x00\x01]", `[:=]`: `[:=]`, `[.:=]`: `[.:=]`,
	})
	for b := range 256 {
		want := bracket.Text(bset.Not(bset.Of(string([]byte{byte(b)})))) + "x"
		checkTexts(t, map[string]string{want: want})
	}
}

// Every set of two bytes is written as bracket.Text writes it.
func TestSetsOfTwoBytes(t *testing.T) {
	for a := range 256 {
		for b := range a {
			set := bset.Of(string([]byte{byte(a), byte(b)}))
			want := bracket.Text(set)
			mixed := "[[." + string([]byte{byte(a)}) + ".][." + string([]byte{byte(b)}) + ".]]"
			if one, f := Text(mixed); one != want || f != (api.Fault{}) {
				t.Fatalf("Text(%q) = %q, %v, want %q", mixed, one, f, want)
			}
			checkReadBack(t, mixed)
		}
	}
}

// What stands for itself by where it stands is written so that it would everywhere.
func TestBytesThatStandForThemselvesWhereTheyStand(t *testing.T) {
	checkTexts(t, map[string]string{
		`*`: `\*`, `**`: `\**`, `***`: `\***`, `^*`: `^\*`, `^**`: `^\**`, `\(*\)`: `\(\*\)`, `\(^*a\)*`: `\(^\*a\)*`, `*\{2,2\}`: `\*\{2\}`, `a\**`: `a\**`, `a\(**\)`: `a\(\**\)`, `\(a\)\(*\)`: `\(a\)\(\*\)`,
		`a^`: `a\^`, `^^`: `^\^`, `^^*`: `^\^*`, `\^`: `\^`, `\(a\)^`: `\(a\)\^`, `\(^\)`: `\(^\)`, `a\(^\)`: `a\(^\)`, `a*^`: `a*\^`, `*^`: `\*\^`, `(^`: `(\^`, `\(\)^*`: `\(\)\^*`,
		`$a`: `\$a`, `$$`: `\$$`, `$*`: `\$*`, `a$b`: `a\$b`, `\$`: `\$`, `a\$`: `a\$`, `\($\)`: `\($\)`, `\($\)$`: `\($\)$`, `$\(\)`: `\$\(\)`, `\(a\)$\1`: `\(a\)\$\1`, `$)`: `\$)`, `$\n`: `\$\n`, `a$*`: `a\$*`, `\($$\)a`: `\(\$$\)a`, `$^`: `\$\^`, `^$^$`: `^\$\^$`,
	})
}

// P5.3.

func TestOneTextsAtMaxBre(t *testing.T) {
	newlines := strings.Repeat("\n", 256)
	full := strings.Repeat(`\n`, 256)
	checkTexts(t, map[string]string{newlines: full, full: full})
	for _, text := range []string{newlines, strings.Repeat("]", 256)} {
		if one, _ := Text(text); len(one) != api.MaxBre {
			t.Errorf("the one text of %q has %d bytes", text, len(one))
		}
	}
}

// A one text beyond MaxBre is answered whole, but it can't be read again.
func TestOneTextsBeyondMaxBre(t *testing.T) {
	others, _, _ := bracket.Parse("[^a]", 0)
	for text, want := range map[string]string{
		"^" + strings.Repeat("\n", 256):          "^" + strings.Repeat(`\n`, 256),
		strings.Repeat("]", 256) + "*":           strings.Repeat(`\]`, 256) + "*",
		strings.Repeat("[^a]", 128):              strings.Repeat(bracket.Text(others), 128),
		strings.Repeat(`.[^a]`, 100) + `\{2,2\}`: strings.Repeat("."+bracket.Text(others), 100) + `\{2\}`,
	} {
		if one, f := Text(text); one != want || f != (api.Fault{}) {
			t.Errorf("Text(%q) = %q, %v, want %q", text, one, f, want)
		}
		checkRefused(t, api.ErrLong, map[string]int{want: 0})
	}
}

// A text at MaxRe positions has a one text that is read, too.
func TestOneTextsAtMaxRe(t *testing.T) {
	long := strings.Repeat("a", 256)
	checkTexts(t, map[string]string{
		long: long, strings.Repeat("[a]", 170): strings.Repeat("a", 170), `[a]\{255,255\}b`: `a\{255\}b`, `\(a\{16\}\)\{16,16\}`: `\(a\{16\}\)\{16\}`, long + `\{0,\}`: long + "*", `a\{255,\}b`: `a\{255,\}b`,
	})
}

// The errors: each fault of bre.Parse, and an empty text beside it.

func TestFaults(t *testing.T) {
	long := strings.Repeat("a", 256)
	checkRefused(t, api.ErrLong, map[string]int{strings.Repeat("a", 513): 0, strings.Repeat("[", 513): 0, `\w` + strings.Repeat("*", 600): 0})
	checkRefused(t, api.ErrEnd, map[string]int{`\`: 0, `ab\`: 2, `\(\`: 2, `[a`: 0, `x[`: 1, `a*[^]`: 2, `[[:digit]`: 0, `\([a-`: 2})
	checkRefused(t, api.ErrClass, map[string]int{`[[:nix:]]`: 0, `ab[[.ab.]]`: 2, `\([[=ab=]]\)`: 2})
	checkRefused(t, api.ErrRange, map[string]int{`[c-a]`: 0, `x*[[:digit:]-z]`: 2, `\([a-c-e]\)`: 2})
	checkRefused(t, api.ErrRepeat, map[string]int{
		`\{2\}`: 0, `^\{2\}`: 1, `\(\{2\}\)`: 2, `\(^\{2\}\)`: 3, `a\{2`: 1, `a\{\}`: 1, `ab\{,2\}`: 2, `a\{3,2\}`: 1, `a\{256\}`: 1, `a\{0,256\}`: 1, `a*\{x\}`: 2, `\}`: 0, `a\}`: 1, `a\{2\}\}`: 6,
	})
	checkRefused(t, api.ErrFull, map[string]int{strings.Repeat(`\(`, 10): 18, strings.Repeat(`\(\)`, 9) + `a\(\)`: 37})
	checkRefused(t, api.ErrParen, map[string]int{`\)`: 0, `a\)`: 1, `\(a\)\)`: 5, `\(`: 0, `a\(b`: 1, `\(\(a\)`: 0, `\(a\(b`: 3})
	checkRefused(t, api.ErrBack, map[string]int{`\1`: 0, `a\2`: 1, `\(a\1\)`: 3, `\(a\)\2`: 5})
	checkRefused(t, api.ErrEscape, map[string]int{`\w`: 0, `a\0`: 1, `\(\N\)`: 2})
	checkRefused(t, api.ErrTooBig, map[string]int{
		long + "b": 256, long + "[^b]": 256, `\(` + long + `\)\1`: 260, long + `\{2\}`: 256, `a\{255\}b\(*\)`: 11, `a\{255\}bc`: 9, `\(a\{16\}\)\{17\}`: 11,
	})
}

// The first fault from the front is the answer.
func TestTwoFaults(t *testing.T) {
	checkRefused(t, api.ErrEscape, map[string]int{`a\w[`: 1, `\(\w`: 2, `\w\1`: 0})
	checkRefused(t, api.ErrEnd, map[string]int{`[\w`: 0, `\([`: 2})
	checkRefused(t, api.ErrParen, map[string]int{`\)\`: 0, `a\)\w`: 1})
	checkRefused(t, api.ErrBack, map[string]int{`\1\)`: 0, `\(\1[`: 2})
}

// P1, P2: any bytes are answered, alike each time, as bre.Parse says.
func TestAnswersAtAllTexts(t *testing.T) {
	chance := rand.New(rand.NewSource(6))
	for range 50000 {
		bytes := make([]byte, chance.Intn(40))
		for i := range bytes {
			if bytes[i] = byte(chance.Intn(256)); chance.Intn(3) > 0 {
				bytes[i] = `\\\(){}[]*^$.,1n0a`[chance.Intn(18)]
			}
		}
		text := string(bytes)
		_, fault := bre.Parse(text)
		one, f := Text(text)
		if again, g := Text(text); again != one || g != f || f != fault || f.E != api.OK && one != "" {
			t.Fatalf("Text(%q) = %q, %v, then %q, %v, want %v", text, one, f, again, g, fault)
		}
		if fault.E == api.OK {
			checkReadBack(t, text)
		}
	}
}

// Memory: a one text stays what it is, though the text that was handed in is written over.
func TestOneTextsShareNoMemory(t *testing.T) {
	for _, want := range []string{"a", "ab*", `\(a\)\1$`, "[a-c].", `\*`} {
		bytes := []byte(want)
		one, _ := Text(unsafe.String(&bytes[0], len(bytes)))
		for i := range bytes {
			bytes[i] = 'x'
		}
		if one != want {
			t.Errorf("the one text %q has become %q", want, one)
		}
	}
}

// Every text of up to five telling pieces.
func TestAllShortTexts(t *testing.T) {
	pieces := []string{"a", "*", "^", "$", ".", `\(`, `\)`, `\{0,\}`, `\{2,2\}`, `\1`, "1", "[^a]", "[.]", `\`, "\n", "]"}
	good := 0
	var grow func(text string, more int)
	grow = func(text string, more int) {
		if _, fault := bre.Parse(text); fault.E == api.OK {
			checkReadBack(t, text)
			good++
		} else if one, f := Text(text); one != "" || f != fault {
			t.Fatalf("Text(%q) = %q, %v, want %v", text, one, f, fault)
		}
		if more == 0 {
			return
		}
		for _, piece := range pieces {
			grow(text+piece, more-1)
		}
	}
	grow("", 5)
	grow(`\(a\)`, 4)
	if good < 100000 {
		t.Errorf("just %d texts were BREs", good)
	}
}

// maker puts a BRE together by chance: as it might be written, and as its one text.
type maker struct {
	chance       *rand.Rand
	given, one   strings.Builder
	groups       int
	closed       []int
	cost, factor int // the positions at most, and how often what is made now is repeated
}

func (m *maker) add(given, one string) {
	m.given.WriteString(given)
	m.one.WriteString(one)
}

// pick adds one of several ways to write a thing.
func (m *maker) pick(one string, ways ...string) {
	m.add(ways[m.chance.Intn(len(ways))], one)
}

func (m *maker) part(deep int) {
	m.cost += m.factor
	switch m.chance.Intn(12) {
	case 0:
		m.pick(`\*`, `\*`, `[*]`, `[[.*.]]`, `[[=*=]]`)
	case 1:
		m.pick(`\^`, `\^`, `[[.^.]]`, `[[=^=]]`)
	case 2:
		m.pick(`\$`, `\$`, `[$]`, `[[.$.]]`)
	case 3:
		m.pick(`\n`, `\n`, "\n", "[\n]", "\\\n")
	case 4:
		m.pick(".", ".", "[\x00-\xff]", "[\x00-ab-\xff]")
	case 5:
		m.pick("[0-9]", "[0-9]", "[[:digit:]]", "[9876543210]", "[0-45-9]")
	case 6:
		m.pick("[[.-.][.].]]", "[[.-.][.].]]", "[]-]", "[[=-=][.].]]")
	case 7:
		m.pick("[^\x00-\xff]", "[^\x00-\xff]", "[^\x00-a[.b.]-\xff]")
	case 8:
		if len(m.closed) > 0 {
			k := strconv.Itoa(m.closed[m.chance.Intn(len(m.closed))])
			m.add(`\`+k, `\`+k)
			return
		}
		fallthrough
	case 9:
		m.pick("a", "a", "[a]", "[[.a.]]", "[aaa]")
	default:
		m.group(deep)
	}
}

func (m *maker) group(deep int) {
	if deep == 0 || m.groups == 9 {
		m.pick(`\\`, `\\`, `[\]`)
		return
	}
	m.groups++
	number := m.groups
	m.add(`\(`, `\(`)
	m.parts(deep - 1)
	m.add(`\)`, `\)`)
	m.closed = append(m.closed, number)
}

func (m *maker) parts(deep int) {
	if m.chance.Intn(4) == 0 {
		m.add("^", "^")
	} else if m.chance.Intn(4) == 0 {
		m.add("*", `\*`)
		m.cost += m.factor
	}
	for range m.chance.Intn(4) {
		m.factor *= 3
		m.part(deep)
		m.factor /= 3
		switch m.chance.Intn(8) {
		case 0:
			m.pick("*", "*", `\{0,\}`, `\{00,\}`)
		case 1:
			m.pick(`\{3\}`, `\{3\}`, `\{3,3\}`)
		case 2:
			m.pick(`\{1,\}`, `\{1,\}`, `\{01,\}`)
		case 3:
			m.pick(`\{0,2\}`, `\{0,2\}`)
		case 4:
			m.pick(`\{0\}*`, `\{0\}*`, `\{0,0\}\{0,\}`)
		}
	}
	if m.chance.Intn(4) == 0 {
		m.add("$", "$")
	}
}

// Longer texts, each made together with its one text.
func TestManyTexts(t *testing.T) {
	chance := rand.New(rand.NewSource(5))
	good := 0
	for range 100000 {
		m := &maker{chance: chance, factor: 1}
		m.parts(3)
		given, want := m.given.String(), m.one.String()
		if m.cost > api.MaxRe || len(given) > api.MaxBre {
			continue
		}
		good++
		for range 2 {
			if one, f := Text(given); one != want || f != (api.Fault{}) {
				t.Fatalf("Text(%q) = %q, %v, want %q", given, one, f, want)
			}
		}
		checkReadBack(t, given)
	}
	if good < 50000 {
		t.Errorf("just %d texts were held", good)
	}
}

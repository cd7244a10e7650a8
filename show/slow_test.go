package show

import (
	"fmt"
	"math/rand"
	"regexp"
	"strings"
	"testing"

	"runnel/api"
	"runnel/script"
)

// A second writer: it lays each command's line out as a whole, with the delimiters still open, and closes these by a table of the bytes that stand between.

func slowText(text string) (string, api.Fault) {
	commands, quiet, fault := script.Parse(text)
	if fault.E != api.OK {
		return "", fault
	}
	one := ""
	if quiet {
		one = "#n\n"
	}
	for _, c := range commands {
		a, okA := slowAddress(c.A)
		b, okB := slowAddress(c.B)
		rest, ok := slowRest(c)
		if !okA || !okB || !ok {
			return "", api.Fault{E: api.ErrNone, At: c.At}
		}
		one += fmt.Sprintf("%s%s%s%c%s\n", a, map[bool]string{true: ","}[b != ""]+b, map[bool]string{true: "!"}[c.Not], c.Name, rest)
	}
	return one, api.Fault{}
}

func slowAddress(a api.Address) (string, bool) {
	switch a.Kind {
	case api.ANone:
		return "", true
	case api.ALine:
		return fmt.Sprint(a.Line), true
	case api.ALast:
		return "$", true
	}
	text, ok := slowBetween(a.Re)
	if ok && text[0] != '/' {
		text = `\` + text
	}
	return text, ok
}

// slowBetween takes the bytes that stand in texts out of a list of all delimiters; the first one that is left is taken.
func slowBetween(texts ...string) (string, bool) {
	const all = "/!\"#$%&'()*+,-.0123456789:;<=>?@ABCDEFGHIJKLMNOPQRSTUVWXYZ[]^_`abcdefghijklmnopqrstuvwxyz{|}~"
	left := strings.Map(func(r rune) rune {
		if strings.ContainsRune(strings.Join(texts, ""), r) {
			return -1
		}
		return r
	}, all)
	if left == "" {
		return "", false
	}
	return left[:1] + strings.Join(texts, left[:1]) + left[:1], true
}

var (
	lastNewline = regexp.MustCompile(`\n$`)
	toEscape    = regexp.MustCompile(`[\\\n]`)
	escapedLine = regexp.MustCompile(`\\\n`)
	toEscapeAnd = regexp.MustCompile(`[\\\n&]`)
)

// slowY answers a text of y as it is written.
func slowY(text string) string {
	return escapedLine.ReplaceAllString(toEscape.ReplaceAllString(text, `\$0`), `\n`)
}

func slowRest(c api.Command) (string, bool) {
	switch c.Name {
	case 'a', 'i', 'c':
		return "\\\n" + toEscape.ReplaceAllString(lastNewline.ReplaceAllString(c.Text, ""), `\$0`), true
	case ':', 'b', 't':
		return strings.TrimSuffix(" "+c.Label, " "), true
	case 'r', 'w':
		return " " + c.File, true
	case 'y':
		return slowBetween(slowY(c.From), slowY(c.To))
	case 's':
		put := ""
		for _, part := range c.Parts {
			put += strings.Replace(fmt.Sprintf(`\%d`, part.Group), `\0`, "&", 1)
			if part.Group == -1 {
				put = put[:len(put)-3] + escapedLine.ReplaceAllString(toEscapeAnd.ReplaceAllString(part.Text, `\$0`), `\n`)
			}
		}
		text, ok := slowBetween(c.Re, put)
		flags := fmt.Sprintf("%d%s%s", c.Nth, map[bool]string{true: "g"}[c.All], map[bool]string{true: "p"}[c.Print])
		if c.Nth == 1 {
			flags = flags[1:]
		}
		if c.File != "" {
			flags += "w " + c.File
		}
		return text + flags, ok
	}
	return "", true
}

// checkSame holds Text against the second writer, and what it answers against what is promised of it.
func checkSame(t *testing.T, text string) api.Errno {
	t.Helper()
	one, fault := Text(text)
	if want, wantFault := slowText(text); one != want || fault != wantFault {
		t.Fatalf("Text(%q) = %q, %v, want %q, %v", text, one, fault, want, wantFault)
	}
	if fault.E == api.OK {
		checkAgain(t, text, one)
	}
	return fault.E
}

// Every text of up to so many bytes that mean something, behind a beginning.
func TestSmallScripts(t *testing.T) {
	for _, c := range []struct {
		beginning string
		bytes     string
		most      int
	}{
		{"", "1$/,! \n;p{}#n", 5},
		{"1", ", $2!/ap\n", 5},
		{"\\", "/!\"\\,.p", 6},
		{"/", "/!\\\".n,p", 5},
		{"s", "/!\\\n&1n", 6},
		{"s/", "/!\\\n&1n\"", 6},
		{"s/\\(a\\)/", "/a\\1\n2&", 6},
		{"s/a/b/", "gp120w \n;f", 5},
		{"s.", ".a\\\ng/", 6},
		{"s&", "&a\\\n/!", 6},
		{"y", "/!\\\nnb,", 6},
		{"yn", "n\\a/b!", 6},
		{"y/", "/n\\!ab", 6},
		{"a", "\\\n xp", 7},
		{"c\\\n", "\\\n xp", 6},
		{":", " \n;x}p", 5},
		{"t", " \n;x}p\t", 5},
		{"w", " \n;x}\t", 5},
	} {
		good := 0
		var more func(string, int)
		more = func(text string, left int) {
			if checkSame(t, text) == api.OK {
				good++
			}
			if left == 0 {
				return
			}
			for _, b := range []byte(c.bytes) {
				more(text+string([]byte{b}), left-1)
			}
		}
		more(c.beginning, c.most)
		if good < 10 {
			t.Errorf("%d scripts from %q on are good", good, c.beginning)
		}
	}
}

// someBytes answers bytes that are good in a text of any command, with many delimiters among them.
func someBytes(chance *rand.Rand) string {
	var text strings.Builder
	if chance.Intn(4) == 0 {
		// All delimiters but one or two, or from one on up to another.
		first, end, but := 33, 127, 30+chance.Intn(120)
		if chance.Intn(2) == 0 {
			first, end = first+chance.Intn(3), end-chance.Intn(94)
		}
		for b := first; b < end; b++ {
			if b == but || b == '\\' {
				continue
			}
			if b == '[' || b == '&' {
				text.WriteByte('\\')
			}
			text.WriteByte(byte(b))
		}
		return text.String()
	}
	for range chance.Intn(6) {
		text.WriteString([]string{"a", "b", "/", "!", `\\`, `\n`, `\.`, ".", "*", "$", "0", " ", "\x00", "\x80"}[chance.Intn(14)])
	}
	return text.String()
}

// Scripts of commands with all that may belong to them.
func TestRandomScripts(t *testing.T) {
	chance := rand.New(rand.NewSource(21))
	met := map[api.Errno]int{}
	const d = "\xc8"
	address := func() string {
		switch chance.Intn(4) {
		case 0:
			return "$"
		case 1:
			return fmt.Sprint(1 + chance.Intn(300))
		}
		return `\` + d + someBytes(chance) + d
	}
	for range 20000 {
		text := []string{"", "#n\n"}[chance.Intn(2)]
		for range chance.Intn(6) {
			switch chance.Intn(4) {
			case 0:
				text += address()
			case 1:
				text += address() + " , " + address()
			}
			text += []string{"", "!"}[chance.Intn(2)]
			switch chance.Intn(6) {
			case 0:
				text += "s" + d + someBytes(chance) + d + someBytes(chance) + []string{"", "&", `\&`, "\\\n"}[chance.Intn(4)] + d + []string{"", "g", "p2", "2w f", "gpw f"}[chance.Intn(5)]
			case 1:
				from := []rune(strings.Repeat("a", chance.Intn(2)) + "/!bc"[:chance.Intn(5)])
				text += "y" + d + string(from) + d + strings.Repeat(`\n`, len(from)) + d
			case 2:
				text += []string{"a", "i", "c"}[chance.Intn(3)] + "\\\n" + someBytes(chance) + []string{"", "\\\n", "\\\\"}[chance.Intn(3)] + "x"
			case 3:
				text += []string{":", "b", "t"}[chance.Intn(3)] + " lab el"
			case 4:
				text += []string{"r", "w"}[chance.Intn(2)] + " f ; "
			default:
				text += []string{"{", "}", "p", "q", "="}[chance.Intn(5)]
			}
			text += "\n"
		}
		met[checkSame(t, text)]++
	}
	for _, e := range []api.Errno{api.OK, api.ErrNone} {
		if met[e] < 300 {
			t.Errorf("the error %d was met %d times: %v", e, met[e], met)
		}
	}
}

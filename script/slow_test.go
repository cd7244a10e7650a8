package script

import (
	"math/rand"
	"regexp"
	"strconv"
	"strings"
	"testing"

	"runnel/api"
	"runnel/bre"
	"runnel/template"
	"runnel/ytab"
)

// A second reader: it hands the place and the fault on by itself, and cuts pieces out by regular expressions.

var (
	quietLine = regexp.MustCompile(`^#n(\n|$)`)
	between   = regexp.MustCompile(`^(?:[ \t\n;]|#[^\n]*)*`)
	someBlank = regexp.MustCompile(`^[ \t]*`)
	comma     = regexp.MustCompile(`^[ \t]*,[ \t]*`)
	bang      = regexp.MustCompile(`^[ \t]*(!?)[ \t]*`)
	digits    = regexp.MustCompile(`^[0-9]+`)
	oneText   = regexp.MustCompile(`^[ \t]*\\\n((?:[^\\\n]|\\(?s:.))+|(?:\n))`)
	textHead  = regexp.MustCompile(`^[ \t]*\\\n`)
	oneLabel  = regexp.MustCompile(`^[ \t]*([^\n;]*)`)
	oneFile   = regexp.MustCompile(`^[ \t]*([^\n]*)`)
	goodFile  = regexp.MustCompile(`^[^\n\x00]+$`)
	someFlags = regexp.MustCompile(`^(?:g|p|[0-9]+)*`)
	oneFlag   = regexp.MustCompile(`g|p|[0-9]+`)
	parting   = regexp.MustCompile(`^[ \t]*(?:$|[\n;}#])`)
	anyPair   = regexp.MustCompile(`\\(?s:(.))`)
)

func slowParse(text string) ([]api.Command, bool, api.Fault) {
	if len(text) > 4096 {
		return nil, false, api.Fault{E: api.ErrTooBig}
	}
	var list []api.Command
	at := 0
	for {
		at += len(between.FindString(text[at:]))
		if at == len(text) {
			return list, quietLine.MatchString(text), api.Fault{}
		}
		c, next, e, place := slowCommand(text, at)
		if e != api.OK {
			return nil, false, api.Fault{E: e, At: place}
		}
		list = append(list, c)
		at = next
	}
}

func slowCommand(text string, at int) (c api.Command, next int, e api.Errno, place int) {
	c.A, next, e = slowAddress(text, at)
	if e != api.OK {
		return c, 0, e, at
	}
	if found := comma.FindString(text[next:]); found != "" && c.A.Kind != api.ANone {
		at = next + len(found)
		c.B, next, e = slowAddress(text, at)
		if e == api.OK && c.B.Kind == api.ANone {
			e = api.ErrAddress
		}
		if e != api.OK {
			return c, 0, e, at
		}
	}
	found := bang.FindStringSubmatch(text[next:])
	c.Not = found[1] != ""
	c.At = next + len(found[0])
	if c.At == len(text) {
		return c, 0, api.ErrCommand, c.At
	}
	c.Name = text[c.At]
	length, e, behind := slowRest(text[c.At+1:], &c)
	return c, c.At + 1 + length, e, c.At + behind
}

// slowAddress answers an address and the place behind it.
func slowAddress(text string, at int) (api.Address, int, api.Errno) {
	rest := text[at:]
	if found := digits.FindString(rest); found != "" {
		number, err := strconv.Atoi(found)
		if err != nil || number == 0 || len(found) > 9 {
			return api.Address{}, 0, api.ErrAddress
		}
		return api.Address{Kind: api.ALine, Line: number}, at + len(found), api.OK
	}
	if strings.HasPrefix(rest, "$") {
		return api.Address{Kind: api.ALast}, at + 1, api.OK
	}
	back := 0
	if strings.HasPrefix(rest, `\`) {
		back = 1
		if len(rest) == 1 || rest[1] == '\n' || rest[1] == '\\' {
			return api.Address{}, 0, api.ErrAddress
		}
	} else if !strings.HasPrefix(rest, "/") {
		return api.Address{}, at, api.OK
	}
	re, length := slowPiece(rest[back+1:], rest[back], false)
	if length == 0 {
		return api.Address{}, 0, api.ErrEnd
	}
	if _, fault := bre.Parse(re); fault.E != api.OK {
		return api.Address{}, 0, fault.E
	}
	return api.Address{Kind: api.AMatch, Re: re}, at + back + 1 + length, api.OK
}

// slowPiece answers a piece, and how many bytes it has with its delimiter; 0, if that is missing.
func slowPiece(text string, delim byte, lines bool) (string, int) {
	d := `\x{` + strconv.FormatInt(int64(delim), 16) + `}`
	if delim == 0xff {
		// Package regexp takes a byte that is no text of UTF-8 for this; no other such byte stands in these scripts.
		d = `\x{fffd}`
	}
	pair := `\\[^\n]`
	if lines {
		pair = `\\(?s:.)`
	}
	found := regexp.MustCompile(`^((?:[^\\\n` + d + `]|` + pair + `)*)` + d).FindStringSubmatch(text)
	if found == nil {
		return "", 0
	}
	piece := anyPair.ReplaceAllStringFunc(found[1], func(two string) string {
		if two[1] == delim && !strings.ContainsAny(two[1:], ".[*^$&") {
			return two[1:]
		}
		return two
	})
	return piece, len(found[0])
}

// slowRest answers how many bytes belong to a command behind its name; beside an error, where that is: 0 for the name's place.
func slowRest(rest string, c *api.Command) (int, api.Errno, int) {
	switch name := string([]byte{c.Name}); {
	case name == "{":
		return 0, api.OK, 0
	case strings.Contains("aic", name):
		return slowText(rest, c)
	case strings.Contains(":bt", name):
		found := oneLabel.FindStringSubmatch(rest)
		c.Label = strings.Trim(found[1], " \t")
		if len(c.Label) > 32 || name == ":" && c.Label == "" {
			return 0, api.ErrLabel, 0
		}
		return len(found[0]), api.OK, 0
	case strings.Contains("rw", name):
		return slowFile(rest, c)
	case name == "s":
		return slowS(rest, c)
	case name == "y":
		length, e := slowY(rest, c)
		if e != api.OK {
			return 0, e, 0
		}
		return slowEnd(rest, length)
	case strings.Contains("}=dDgGhHlnNpPqx", name):
		return slowEnd(rest, 0)
	}
	return 0, api.ErrCommand, 0
}

// slowEnd asks what stands behind so many bytes that belong to a command.
func slowEnd(rest string, length int) (int, api.Errno, int) {
	if !parting.MatchString(rest[length:]) {
		return 0, api.ErrText, 1 + length + len(someBlank.FindString(rest[length:]))
	}
	return length, api.OK, 0
}

func slowText(rest string, c *api.Command) (int, api.Errno, int) {
	head := textHead.FindString(rest)
	if head == "" {
		return 0, api.ErrText, 0
	}
	found := oneText.FindStringSubmatch(rest)
	if found == nil {
		return 0, api.ErrEnd, 0
	}
	end := len(found[0])
	if found[1] == "\n" {
		c.Text = "\n"
		return end, api.OK, 0
	}
	if end < len(rest) && rest[end] == '\\' {
		return 0, api.ErrEnd, 0
	}
	c.Text = anyPair.ReplaceAllString(found[1], "$1") + "\n"
	return min(end+1, len(rest)), api.OK, 0
}

func slowFile(rest string, c *api.Command) (int, api.Errno, int) {
	found := oneFile.FindStringSubmatch(rest)
	c.File = found[1]
	if len(c.File) > 64 || !goodFile.MatchString(c.File) {
		return 0, api.ErrName, 0
	}
	return len(found[0]), api.OK, 0
}

// countGroups counts the groups of a tree.
func countGroups(tree api.Re) int {
	count := 0
	if tree.Kind == api.KGroup {
		count = 1
	}
	for _, kid := range tree.Kids {
		count += countGroups(kid)
	}
	return count
}

func slowS(rest string, c *api.Command) (int, api.Errno, int) {
	if rest == "" || rest[0] == '\n' || rest[0] == '\\' {
		return 0, api.ErrText, 0
	}
	re, first := slowPiece(rest[1:], rest[0], false)
	if first == 0 {
		return 0, api.ErrEnd, 0
	}
	replacement, second := slowPiece(rest[1+first:], rest[0], true)
	if second == 0 {
		return 0, api.ErrEnd, 0
	}
	tree, fault := bre.Parse(re)
	if fault.E != api.OK {
		return 0, fault.E, 0
	}
	parts, fault := template.Parse(replacement)
	if fault.E != api.OK {
		return 0, fault.E, 0
	}
	for _, part := range parts {
		if re != "" && part.Group > countGroups(tree) {
			return 0, api.ErrBack, 0
		}
	}
	c.Re, c.Parts, c.Nth = re, parts, 1
	return slowFlags(rest, 1+first+second, c)
}

// slowFlags cuts all flags off at once and then looks at each.
func slowFlags(rest string, length int, c *api.Command) (int, api.Errno, int) {
	flags := someFlags.FindString(rest[length:])
	seen := ""
	for _, span := range oneFlag.FindAllStringIndex(flags, -1) {
		flag := flags[span[0]:span[1]]
		kind := flag
		switch flag {
		case "g":
			c.All = true
		case "p":
			c.Print = true
		default:
			kind = "1"
			number, err := strconv.Atoi(flag)
			if err != nil || len(flag) > 9 || number < 1 || number > 512 {
				return 0, api.ErrFlag, 1 + length + span[0]
			}
			c.Nth = number
		}
		if strings.Contains(seen, kind) {
			return 0, api.ErrFlag, 1 + length + span[0]
		}
		seen += kind
	}
	length += len(flags)
	if strings.HasPrefix(rest[length:], "w") {
		more, e, _ := slowFile(rest[length+1:], c)
		return length + 1 + more, e, 0
	}
	return slowEnd(rest, length)
}

func slowY(rest string, c *api.Command) (int, api.Errno) {
	if rest == "" || rest[0] == '\n' || rest[0] == '\\' {
		return 0, api.ErrText
	}
	length := 1
	for _, side := range []*string{&c.From, &c.To} {
		piece, more := slowPiece(rest[length:], rest[0], false)
		if more == 0 {
			return 0, api.ErrEnd
		}
		meant, fault := ytab.Piece(piece)
		if fault.E != api.OK {
			return 0, fault.E
		}
		*side = meant
		length += more
	}
	_, e := ytab.New(c.From, c.To)
	return length, e
}

// checkRead holds Parse against the second reader.
func checkRead(t *testing.T, text string) {
	t.Helper()
	list, quiet, fault := Parse(text)
	want, wantQuiet, wantFault := slowParse(text)
	if !same(list, want) || quiet != wantQuiet || fault != wantFault {
		t.Fatalf("Parse(%q) = %+v, %v, %v, want %+v, %v, %v", text, list, quiet, fault, want, wantQuiet, wantFault)
	}
}

// Every script of up to so many pieces that mean something, behind a beginning.
func TestSmallScripts(t *testing.T) {
	for _, c := range []struct {
		beginning string
		pieces    string
		most      int
	}{
		{"", "1$/\\,! \n;p{}#nsya:bw0", 3},
		{"", "1,$! p", 6},
		{"", "#n\np ;", 6},
		{"1", ", $2!/ap\n", 5},
		{"/", "/a\\\n,p(", 5},
		{"\\", "/a\\\n,p(", 5},
		{"1,\\", "/a\\\n,p(", 4},
		{"s", "/a\\\n&1", 5},
		{"s/", "/a\\\n&1", 5},
		{"s/\\(a\\)/", "/a\\1\n2&", 5},
		{"s/a/b/", "gp20w \n;}#x", 4},
		{"s.", ".a\\\ng", 6},
		{"y", "/a\\\nnb", 5},
		{"y/a", "/ab\\\nn ;", 5},
		{"a", "\\\n xp", 6},
		{":", " \n;x}p", 5},
		{"b", " \n;x}p", 5},
		{"r", " \n;x}\x00", 5},
		{"}", " \n;x}p#{", 4},
	} {
		var read func(text string, more int)
		read = func(text string, more int) {
			checkRead(t, text)
			if more > 0 {
				for _, b := range []byte(c.pieces) {
					read(text+string(b), more-1)
				}
			}
		}
		read(c.beginning, c.most)
	}
}

// Scripts of commands, some of them with a byte that is put in, left out or exchanged.
func TestRandomScripts(t *testing.T) {
	pieces := []string{
		"p", "d;", "x ", "{", "}", "1", "$!", "2,3", "/a*b/", `\,\(x\),`, "1 , $ ! ", "\n", ";", "# c\n", "#n\n", "n\n", "}\n",
		"s/a/b/", `s/\(a\)/\1&/2`, "s,x*,\\\n,gp", "s/a/b/w f\n", "s//\\2/", "y/ab/ba/", `y/\n/x/`, ":l\n", "b l;", "t\n", "b}",
		"a\\\nt\\\nu\n", "i\\\n\n", "c \\\nx\n", "r f\n", "w g\n", "=", "q", "l", "  ", "\t", "0", `\`, "/", "w", "g", "600", "k", "\x00", "\xff",
	}
	chance := rand.New(rand.NewSource(18))
	for range 60000 {
		var made strings.Builder
		for range chance.Intn(10) {
			made.WriteString(pieces[chance.Intn(len(pieces))])
		}
		text := made.String()
		if at := chance.Intn(len(text) + 1); chance.Intn(2) == 0 {
			other := pieces[chance.Intn(len(pieces))]
			text = text[:at] + other[:min(1, chance.Intn(3))] + text[min(len(text), at+chance.Intn(2)):]
		}
		checkRead(t, text)
	}
}

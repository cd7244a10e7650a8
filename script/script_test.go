package script

import (
	"reflect"
	"strconv"
	"strings"
	"testing"
	"unsafe"

	"runnel/api"
)

// line, last and match answer addresses.

func line(number int) api.Address {
	return api.Address{Kind: api.ALine, Line: number}
}

func last() api.Address {
	return api.Address{Kind: api.ALast}
}

func match(re string) api.Address {
	return api.Address{Kind: api.AMatch, Re: re}
}

// plain and group answer parts of a replacement.

func plain(text string) api.Part {
	return api.Part{Group: -1, Text: text}
}

func group(number int) api.Part {
	return api.Part{Group: number}
}

// same compares commands, for which no parts and an empty list of parts are the same.
func same(a, b []api.Command) bool {
	return len(a) == len(b) && (len(a) == 0 || reflect.DeepEqual(bare(a), bare(b)))
}

func bare(list []api.Command) []api.Command {
	list = append([]api.Command(nil), list...)
	for i := range list {
		if len(list[i].Parts) == 0 {
			list[i].Parts = nil
		}
	}
	return list
}

// checkParse holds Parse against commands and whether the script is quiet.
func checkParse(t *testing.T, text string, quiet bool, want ...api.Command) {
	t.Helper()
	if list, q, fault := Parse(text); !same(list, want) || q != quiet || fault != (api.Fault{}) {
		t.Errorf("Parse(%.200q) = %+v, %v, %v, want %+v, %v", text, list, q, fault, want, quiet)
	}
}

// checkOne holds Parse against one command.
func checkOne(t *testing.T, text string, want api.Command) {
	t.Helper()
	checkParse(t, text, false, want)
}

// checkNames holds Parse against the names of commands and their places.
func checkNames(t *testing.T, text, names string, places ...int) {
	t.Helper()
	list, _, fault := Parse(text)
	got, at := "", []int{}
	for _, c := range list {
		got += string([]byte{c.Name})
		at = append(at, c.At)
	}
	if got != names || !reflect.DeepEqual(at, append([]int{}, places...)) || fault != (api.Fault{}) {
		t.Errorf("Parse(%q) = %q at %v, %v, want %q at %v", text, got, at, fault, names, places)
	}
}

// checkFault holds Parse against a fault, with nothing beside it.
func checkFault(t *testing.T, text string, e api.Errno, at int) {
	t.Helper()
	if list, quiet, fault := Parse(text); len(list) != 0 || quiet || fault != (api.Fault{E: e, At: at}) {
		t.Errorf("Parse(%d bytes: %.60q) = %v, %v, %v, want %d at %d", len(text), text, list, quiet, fault, e, at)
	}
}

func TestTheChaptersExamples(t *testing.T) {
	checkOne(t, "2,/x/!s/a/b/2gp", api.Command{At: 6, A: line(2), B: match("x"), Not: true, Name: 's', Re: "a", Parts: []api.Part{plain("b")}, Nth: 2, All: true, Print: true})
	checkParse(t, "#n\np", true, api.Command{At: 3, Name: 'p'})
	checkNames(t, "{p;p}", "{pp}", 0, 1, 3, 4)
	checkFault(t, "0p", api.ErrAddress, 0)
	checkFault(t, "1,p", api.ErrAddress, 2)
	checkFault(t, "k", api.ErrCommand, 0)
	checkFault(t, "1", api.ErrCommand, 1)
	checkFault(t, "p p", api.ErrText, 2)
	checkFault(t, "s/a", api.ErrEnd, 0)
	checkFault(t, "s/a/b/gg", api.ErrFlag, 7)
	checkFault(t, `s/a/\1/`, api.ErrBack, 0)
	checkFault(t, `/\(/p`, api.ErrParen, 0)
	checkFault(t, "y/ab/c/", api.ErrMap, 0)
	checkFault(t, "a x", api.ErrText, 0)
	checkFault(t, "!!p", api.ErrCommand, 1)
	checkFault(t, ":", api.ErrLabel, 0)
	checkFault(t, "w", api.ErrName, 0)
}

// Commands, their addresses and what may stand between.

// sample is a command as it is written from its name on, and what is read of that.
type sample struct {
	text string
	want api.Command
}

// bareNames are the names to which nothing belongs, but for { .
const bareNames = "}=dDgGhHlnNpPqx"

// samples has each name at least once.
func samples() []sample {
	list := []sample{
		{"{", api.Command{Name: '{'}},
		{"a\\\nx y\\\nz", api.Command{Name: 'a', Text: "x y\nz\n"}},
		{"i \\\n\n", api.Command{Name: 'i', Text: "\n"}},
		{"c\t\\\n\\\\", api.Command{Name: 'c', Text: "\\\n"}},
		{":x", api.Command{Name: ':', Label: "x"}},
		{": x y", api.Command{Name: ':', Label: "x y"}},
		{"b", api.Command{Name: 'b'}},
		{"b x", api.Command{Name: 'b', Label: "x"}},
		{"t", api.Command{Name: 't'}},
		{"t}#", api.Command{Name: 't', Label: "}#"}},
		{"r f", api.Command{Name: 'r', File: "f"}},
		{"wa b;c} #", api.Command{Name: 'w', File: "a b;c} #"}},
		{"s/a/b/", api.Command{Name: 's', Re: "a", Parts: []api.Part{plain("b")}, Nth: 1}},
		{"s,,,", api.Command{Name: 's', Nth: 1}},
		{`s/\(a\)/&\1c/3gp`, api.Command{Name: 's', Re: `\(a\)`, Parts: []api.Part{group(0), group(1), plain("c")}, Nth: 3, All: true, Print: true}},
		{"s/a/b/gw f", api.Command{Name: 's', Re: "a", Parts: []api.Part{plain("b")}, Nth: 1, All: true, File: "f"}},
		{"y/a\\n/b\\\\/", api.Command{Name: 'y', From: "a\n", To: "b\\"}},
		{"y,,,", api.Command{Name: 'y'}},
	}
	for _, name := range []byte(bareNames) {
		list = append(list, sample{string([]byte{name}), api.Command{Name: name}})
	}
	return list
}

// addressing is what stands ahead of a name, and what is read of that.
type addressing struct {
	text string
	a, b api.Address
	not  bool
}

func addressings() []addressing {
	list := []addressing{
		{"", api.Address{}, api.Address{}, false},
		{"1", line(1), api.Address{}, false},
		{"$", last(), api.Address{}, false},
		{"/x/", match("x"), api.Address{}, false},
		{"\\,x,", match("x"), api.Address{}, false},
		{"2,3", line(2), line(3), false},
		{"2,$", line(2), last(), false},
		{"$,/y/", last(), match("y"), false},
		{"/x/,\\ay\\aa", match("x"), match("ya"), false},
	}
	for _, one := range list {
		one.text, one.not = one.text+"!", true
		list = append(list, one)
	}
	return list
}

// Each name without addresses, with one and with two, with and without a !, and with blanks ahead of it.
func TestEachNameWithEachAddress(t *testing.T) {
	for _, s := range samples() {
		for _, a := range addressings() {
			for _, blanks := range []string{"", " ", "\t \t"} {
				want := s.want
				want.A, want.B, want.Not = a.a, a.b, a.not
				want.At = len(a.text) + len(blanks)
				checkOne(t, a.text+blanks+s.text, want)
			}
		}
	}
}

// Blanks at every set of the places at which they may stand.
func TestBlanksAtEachPlace(t *testing.T) {
	for set := range 1 << 7 {
		blanks := func(place int) string {
			return strings.Repeat(" \t", set>>place&1)
		}
		ahead := blanks(0) + "1" + blanks(1) + "," + blanks(2) + "/x/" + blanks(3) + "!" + blanks(4)
		checkOne(t, ahead+"p"+blanks(5), api.Command{At: len(ahead), A: line(1), B: match("x"), Not: true, Name: 'p'})
		ahead = blanks(0) + "$" + blanks(1) + "!" + blanks(2)
		checkOne(t, ahead+"s/a/b/g"+blanks(3)+"\n"+blanks(4), api.Command{At: len(ahead), A: last(), Not: true, Name: 's', Re: "a", Parts: []api.Part{plain("b")}, Nth: 1, All: true})
		checkParse(t, blanks(0)+"{"+blanks(1)+"x"+blanks(2)+"}"+blanks(3), false,
			api.Command{At: len(blanks(0)), Name: '{'},
			api.Command{At: len(blanks(0) + "{" + blanks(1)), Name: 'x'},
			api.Command{At: len(blanks(0) + "{" + blanks(1) + "x" + blanks(2)), Name: '}'})
	}
}

// Where blanks may stand within a command, a newline and a ; may not.
func TestNoNewlineWithinACommand(t *testing.T) {
	for _, b := range []string{"\n", ";"} {
		checkFault(t, "1"+b+"p", api.ErrCommand, 1)
		checkFault(t, "1 "+b+"p", api.ErrCommand, 2)
		checkFault(t, "1"+b+",2p", api.ErrCommand, 1)
		checkFault(t, "1,"+b+"2p", api.ErrAddress, 2)
		checkFault(t, "1, "+b+"2p", api.ErrAddress, 3)
		checkFault(t, "1,2"+b+"p", api.ErrCommand, 3)
		checkFault(t, "!"+b+"p", api.ErrCommand, 1)
		checkFault(t, "1! "+b+"p", api.ErrCommand, 3)
		checkFault(t, b+"1", api.ErrCommand, 2)
	}
}

// Every byte in a name's place, without an address, and with a ! or an address ahead.
func TestEachByteAsAName(t *testing.T) {
	for number := range 256 {
		b := string([]byte{byte(number)})
		if strings.Contains("{aic:btrwsy"+bareNames, b) {
			continue
		}
		blank := strings.Count(" \t", b)
		checkFault(t, "!"+b, api.ErrCommand, 1+blank)
		checkFault(t, "p\n$!"+b, api.ErrCommand, 4+blank)
		switch {
		case strings.Contains(" \t\n;#", b):
			checkParse(t, b, false)
			checkFault(t, "/x/"+b, api.ErrCommand, 3+blank)
		case b == ",":
			checkFault(t, b, api.ErrCommand, 0)
			checkFault(t, "/x/"+b, api.ErrAddress, 4)
		case b == "!":
			checkFault(t, b, api.ErrCommand, 1)
			checkFault(t, "/x/"+b, api.ErrCommand, 4)
		case b == "0":
			checkFault(t, b, api.ErrAddress, 0)
			checkFault(t, "/x/"+b, api.ErrCommand, 3)
		case strings.Contains("123456789$", b):
			checkFault(t, b, api.ErrCommand, 1)
			checkFault(t, "/x/"+b, api.ErrCommand, 3)
		case b == "/":
			checkFault(t, b, api.ErrEnd, 0)
			checkFault(t, "/x/"+b, api.ErrCommand, 3)
		case b == `\`:
			checkFault(t, b, api.ErrAddress, 0)
			checkFault(t, "/x/"+b, api.ErrCommand, 3)
		default:
			checkFault(t, b, api.ErrCommand, 0)
			checkFault(t, "p\n"+b, api.ErrCommand, 2)
			checkFault(t, "/x/"+b, api.ErrCommand, 3)
		}
	}
}

func TestBetweenCommands(t *testing.T) {
	for _, text := range []string{"", " ", "\t", "\n", ";", ";;\n \n\t;", "#", "# x", "#\n#\n;#;\n"} {
		checkParse(t, text, false)
	}
	checkNames(t, "p\np", "pp", 0, 2)
	checkNames(t, "p;p", "pp", 0, 2)
	checkNames(t, " ;\n\tp \n;; p ;", "pp", 4, 10)
	checkNames(t, "{p}", "{p}", 0, 1, 2)
	checkNames(t, "{;p;};", "{p}", 0, 2, 4)
	checkNames(t, "{{p}}", "{{p}}", 0, 1, 2, 3, 4)
	checkNames(t, "{}\n{", "{}{", 0, 1, 3)
}

func TestComments(t *testing.T) {
	checkNames(t, "#p;p\np", "p", 5)
	checkNames(t, "p#p\np", "pp", 0, 4)
	checkNames(t, "p # p", "p", 0)
	checkNames(t, "  # p\n  p", "p", 8)
	checkNames(t, "{# }\np}", "{p}", 0, 5, 6)
	checkNames(t, "}# }\n}", "}}", 0, 5)
	checkNames(t, "p;#\\\np", "pp", 0, 5)
	checkNames(t, "#\n#\np#", "p", 4)
	checkNames(t, "# 1,\n#/\n#!", "")
	checkFault(t, "1#", api.ErrCommand, 1)
	checkFault(t, "1 # x\np", api.ErrCommand, 2)
	checkFault(t, "1,$#x", api.ErrCommand, 3)
	checkFault(t, "!#x", api.ErrCommand, 1)
	checkFault(t, "! # x", api.ErrCommand, 2)
	checkFault(t, "/x/! #x", api.ErrCommand, 5)
	checkFault(t, "1,# x", api.ErrAddress, 2)
}

func TestQuiet(t *testing.T) {
	p := func(at int) api.Command { return api.Command{At: at, Name: 'p'} }
	checkParse(t, "#n", true)
	checkParse(t, "#n\n", true)
	checkParse(t, "#n\n\n#n\n", true)
	checkParse(t, "#n\np", true, p(3))
	checkParse(t, "#n\n#np\n p", true, p(8))
	for _, first := range []string{"#n ", "#nn", "#np", "#n;", "# n", "#N", "##n", "#", "#n#", "#n\t", "#n\x00", " #n", "\t#n", "\n#n", ";#n", "#\n#n"} {
		checkParse(t, first, false)
		checkParse(t, first+"\np", false, p(len(first)+1))
	}
	checkParse(t, "p\n#n", false, p(0))
	checkParse(t, "p\n#n\np", false, p(0), p(5))
	checkParse(t, "p#n", false, p(0))
	checkFault(t, "#n\nk", api.ErrCommand, 3)
	checkFault(t, "#n\n#n\np\n1", api.ErrCommand, 9)
}

// Addresses.

func TestLineAddresses(t *testing.T) {
	for _, number := range []int{1, 2, 9, 10, 120, 123456789, 999999999} {
		digits := strconv.Itoa(number)
		checkOne(t, digits+"p", api.Command{At: len(digits), A: line(number), Name: 'p'})
		checkOne(t, "$,"+digits+"p", api.Command{At: 2 + len(digits), A: last(), B: line(number), Name: 'p'})
	}
	checkOne(t, "007p", api.Command{At: 3, A: line(7), Name: 'p'})
	checkOne(t, "2,1p", api.Command{At: 3, A: line(2), B: line(1), Name: 'p'})
	for _, digits := range []string{"0", "00", "000000000", "0000000001", "1000000000", "99999999999999999999999"} {
		checkFault(t, digits+"p", api.ErrAddress, 0)
		checkFault(t, " ;"+digits+"p", api.ErrAddress, 2)
		checkFault(t, digits+",1p", api.ErrAddress, 0)
		checkFault(t, "1,"+digits+"p", api.ErrAddress, 2)
		checkFault(t, "1 , "+digits+"p", api.ErrAddress, 4)
	}
	checkFault(t, "1 2p", api.ErrCommand, 2)
	checkFault(t, "-1p", api.ErrCommand, 0)
	checkFault(t, "1$p", api.ErrCommand, 1)
	checkFault(t, "$1p", api.ErrCommand, 1)
	checkFault(t, "$$p", api.ErrCommand, 1)
}

func TestMatchAddresses(t *testing.T) {
	for text, re := range map[string]string{
		"//":            "",
		"/a/":           "a",
		`/a\/b/`:        "a/b",
		`/a\\/`:         `a\\`,
		`/\n\(a\)\1/`:   `\n\(a\)\1`,
		`/a b;c#}!/`:    "a b;c#}!",
		`\/a/`:          "a",
		`\,a,`:          "a",
		`\,a/b,`:        "a/b",
		`\,a\,b,`:       "a,b",
		`\,,`:           "",
		`\xax`:          "a",
		`\nan`:          "a",
		`\1a1`:          "a",
		`\ a `:          "a",
		`\.a\.b.`:       `a\.b`,
		`\*a\**`:        `a\*`,
		`\[\[a[`:        `\[a`,
		`\(\(a(`:        "(a",
		"\\\xffa\xff":   "a",
		"\\\x00a\x00":   "a",
		"/[[:alpha:]]/": "[[:alpha:]]",
	} {
		want := match(re)
		checkOne(t, text+"p", api.Command{At: len(text), A: want, Name: 'p'})
		checkOne(t, text+","+text+"!p", api.Command{At: 2*len(text) + 2, A: want, B: want, Not: true, Name: 'p'})
	}
}

// Each fault of an address, as the first one, and as the second with blanks ahead of it.
func TestFaultsOfMatchAddresses(t *testing.T) {
	for _, c := range []struct {
		text string
		e    api.Errno
	}{
		{"/", api.ErrEnd},
		{"/a", api.ErrEnd},
		{`/a\`, api.ErrEnd},
		{`/a\/p`, api.ErrEnd},
		{"/a\n/p", api.ErrEnd},
		{"/a\\\n/p", api.ErrEnd},
		{`\,`, api.ErrEnd},
		{`\,a/p`, api.ErrEnd},
		{`\`, api.ErrAddress},
		{"\\\n", api.ErrAddress},
		{"\\\na\np", api.ErrAddress},
		{`\\a\p`, api.ErrAddress},
		{`/\(/p`, api.ErrParen},
		{`/a\)/p`, api.ErrParen},
		{`/aaa\1/p`, api.ErrBack},
		{`/[a/p`, api.ErrEnd},
		{`/[b-a]/p`, api.ErrRange},
		{`/[[:a:]]/p`, api.ErrClass},
		{`/a\{2/p`, api.ErrRepeat},
		{`\(\(a\)(p`, api.ErrParen},
		{`/a\{255\}a\{255\}/p`, api.ErrTooBig},
		{"/" + strings.Repeat("a*", api.MaxBre) + "/p", api.ErrLong},
		{"/" + strings.Repeat(`\(\)`, api.MaxGroups+1) + "/p", api.ErrFull},
	} {
		checkFault(t, c.text, c.e, 0)
		checkFault(t, " \n;"+c.text, c.e, 3)
		checkFault(t, "1,"+c.text, c.e, 2)
		checkFault(t, "/x/ ,\t"+c.text, c.e, 6)
		checkFault(t, "p\n$,"+c.text, c.e, 4)
	}
}

func TestTheSecondAddressIsMissing(t *testing.T) {
	checkFault(t, "1,", api.ErrAddress, 2)
	checkFault(t, "1, ", api.ErrAddress, 3)
	checkFault(t, "1 , \tp", api.ErrAddress, 5)
	checkFault(t, "$,!p", api.ErrAddress, 2)
	checkFault(t, "/x/,{", api.ErrAddress, 4)
	checkFault(t, "/x/,,2p", api.ErrAddress, 4)
	checkFault(t, "1,+2p", api.ErrAddress, 2)
	checkFault(t, "1,2,3p", api.ErrCommand, 3)
	checkFault(t, ",2p", api.ErrCommand, 0)
	checkFault(t, " ,p", api.ErrCommand, 1)
	checkFault(t, "!1p", api.ErrCommand, 1)
	checkFault(t, "1!,2p", api.ErrCommand, 2)
}

func TestTheScriptEndsInACommand(t *testing.T) {
	for _, text := range []string{"1", "$", "/x/", "1,2", "!", "1!", "1 ! ", "p;1", "1\t", "{!"} {
		checkFault(t, text, api.ErrCommand, len(text))
	}
}

// Texts, labels and files.

func TestTextsOfCommands(t *testing.T) {
	for _, name := range []byte("aic") {
		n := string([]byte{name})
		checkParse(t, n+"\\\nx\np", false, api.Command{Name: name, Text: "x\n"}, api.Command{At: 5, Name: 'p'})
		checkParse(t, n+" \\\n  x;p}\\\n#\n1p", false, api.Command{Name: name, Text: "  x;p}\n#\n"}, api.Command{At: 15, A: line(1), Name: 'p'})
		checkParse(t, "1"+n+"\\\n\n\n}", false, api.Command{At: 1, A: line(1), Name: name, Text: "\n"}, api.Command{At: 6, Name: '}'})
		checkFault(t, "1"+n, api.ErrText, 1)
		checkFault(t, "1"+n+"x", api.ErrText, 1)
		checkFault(t, "1"+n+"\\", api.ErrText, 1)
		checkFault(t, "1"+n+"\\x\ny", api.ErrText, 1)
		checkFault(t, "1"+n+"\n", api.ErrText, 1)
		checkFault(t, "1"+n+";", api.ErrText, 1)
		checkFault(t, "1"+n+"\\\n", api.ErrEnd, 1)
		checkFault(t, "1"+n+" \\\nx\\", api.ErrEnd, 1)
		checkFault(t, n+"\\\nx\nk", api.ErrCommand, 5)
	}
}

func TestLabels(t *testing.T) {
	most := strings.Repeat("l", api.MaxLabel)
	for _, name := range []byte(":bt") {
		n := string([]byte{name})
		for _, label := range []string{"x", "a b", "}", "#", "x}", "!", "\\", "\x00\xff", most} {
			checkOne(t, "$"+n+label, api.Command{At: 1, A: last(), Name: name, Label: label})
			checkParse(t, n+" \t"+label+" \t;p", false, api.Command{Name: name, Label: label}, api.Command{At: 6 + len(label), Name: 'p'})
			checkParse(t, n+label+"\np", false, api.Command{Name: name, Label: label}, api.Command{At: 2 + len(label), Name: 'p'})
		}
		checkFault(t, "$"+n+most+"l", api.ErrLabel, 1)
		checkFault(t, "$"+n+most+" l;", api.ErrLabel, 1)
		checkFault(t, n+strings.Repeat("l", 500)+"\nk", api.ErrLabel, 0)
		checkOne(t, n+strings.Repeat(" ", 40)+most+strings.Repeat(" ", 40), api.Command{Name: name, Label: most})
	}
	for _, empty := range []string{"", " ", ";p", "\np", " \t;p", " \t\np"} {
		checkFault(t, "1:"+empty, api.ErrLabel, 1)
	}
	checkNames(t, "b", "b", 0)
	checkNames(t, "b;p", "bp", 0, 2)
	checkNames(t, "t \t\np", "tp", 0, 4)
	checkNames(t, "b \t", "b", 0)
}

func TestFiles(t *testing.T) {
	most := strings.Repeat("f", api.MaxName)
	for _, name := range []byte("rw") {
		n := string([]byte{name})
		for _, file := range []string{"f", "a b", "f ", "f;p", "}", "#", "\xff", most} {
			checkOne(t, "$"+n+file, api.Command{At: 1, A: last(), Name: name, File: file})
			checkParse(t, n+" \t"+file+"\np", false, api.Command{Name: name, File: file}, api.Command{At: 4 + len(file), Name: 'p'})
		}
		for _, wrong := range []string{"", " \t", "\nf", "a\x00b", most + "f", "  " + most + " "} {
			checkFault(t, "$"+n+wrong, api.ErrName, 1)
			checkFault(t, "p\n"+n+wrong, api.ErrName, 2)
			checkFault(t, "p;s/a/b/w"+wrong, api.ErrName, 2)
			checkFault(t, "s/a/b/2gpw"+wrong+"\nk", api.ErrName, 0)
		}
		checkFault(t, n+"f\nk", api.ErrCommand, 3)
	}
}

// Delimiters of s and y.

func TestDelimiters(t *testing.T) {
	for number := range 256 {
		delim := byte(number)
		d := string([]byte{delim})
		u, v := "Q", "W"
		if delim == 'Q' || delim == 'W' {
			u, v = "A", "B"
		}
		if d == "\n" || d == `\` {
			checkFault(t, "1s"+d+u+d+v+d, api.ErrText, 1)
			checkFault(t, "1y"+d+u+d+v+d, api.ErrText, 1)
			continue
		}
		checkOne(t, "s"+d+u+d+v+d, api.Command{Name: 's', Re: u, Parts: []api.Part{plain(v)}, Nth: 1})
		checkOne(t, "y"+d+u+d+v+d, api.Command{Name: 'y', From: u, To: v})
		checkFault(t, "1s"+d+u+d+v, api.ErrEnd, 1)
		checkFault(t, "1y"+d+u+d+v, api.ErrEnd, 1)
	}
	for _, n := range []string{"s", "y"} {
		checkFault(t, n, api.ErrText, 0)
		checkFault(t, "1,$!"+n, api.ErrText, 4)
		checkFault(t, "p;"+n+"\n", api.ErrText, 2)
		checkFault(t, n+"\\", api.ErrText, 0)
	}
	// A delimiter behind a backslash stands for itself; with some the backslash stays.
	checkOne(t, `s,a\,b,c\,d,`, api.Command{Name: 's', Re: "a,b", Parts: []api.Part{plain("c,d")}, Nth: 1})
	checkOne(t, `s.a\.b.c\.d.`, api.Command{Name: 's', Re: `a\.b`, Parts: []api.Part{plain("c.d")}, Nth: 1})
	checkOne(t, `s&a&\&b&`, api.Command{Name: 's', Re: "a", Parts: []api.Part{plain("&b")}, Nth: 1})
	checkOne(t, `s1\(a\)1\11`, api.Command{Name: 's', Re: `\(a\)`, Parts: []api.Part{plain("1")}, Nth: 1})
	checkOne(t, `snanb\nn`, api.Command{Name: 's', Re: "a", Parts: []api.Part{plain("bn")}, Nth: 1})
	checkOne(t, `y,\,,x,`, api.Command{Name: 'y', From: ",", To: "x"})
	checkOne(t, `y.\..x.`, api.Command{Name: 'y', From: ".", To: "x"})
	checkOne(t, `yn\nnxn`, api.Command{Name: 'y', From: "n", To: "x"})
	checkOne(t, `yxaxbx`, api.Command{Name: 'y', From: "a", To: "b"})
}

// s.

func TestReplacements(t *testing.T) {
	s := func(parts ...api.Part) api.Command {
		return api.Command{Name: 's', Re: `\(a\)\(b\)`, Parts: parts, Nth: 1}
	}
	checkOne(t, `s/\(a\)\(b\)//`, s())
	checkOne(t, `s/\(a\)\(b\)/&\0\1\2/`, s(group(0), group(0), group(1), group(2)))
	checkOne(t, `s/\(a\)\(b\)/x\ny\/\\z/`, s(plain("x\ny/\\z")))
	checkOne(t, "s/\\(a\\)\\(b\\)/x\\\ny/", s(plain("x\ny")))
	checkOne(t, "s/\\(a\\)\\(b\\)/\\\n/", s(plain("\n")))
	checkOne(t, "s/a;b#c}/d;e#f}/", api.Command{Name: 's', Re: "a;b#c}", Parts: []api.Part{plain("d;e#f}")}, Nth: 1})
}

func TestGroupsThatAreNotThere(t *testing.T) {
	nine := strings.Repeat(`\(a\)`, 9)
	for number := 1; number <= 9; number++ {
		reference := `\` + strconv.Itoa(number)
		groups := strings.Repeat(`\(a\)`, number)
		checkOne(t, "s/"+groups+"/"+reference+"/", api.Command{Name: 's', Re: groups, Parts: []api.Part{group(number)}, Nth: 1})
		checkOne(t, "s/"+nine+"/"+reference+"/", api.Command{Name: 's', Re: nine, Parts: []api.Part{group(number)}, Nth: 1})
		checkFault(t, "1s/x"+groups[5:]+"/"+reference+"/", api.ErrBack, 1)
		checkFault(t, "1s/x"+groups[5:]+"/&"+reference+"&/", api.ErrBack, 1)
		// Which groups an empty BRE has is not known here.
		checkOne(t, "s//"+reference+"/", api.Command{Name: 's', Parts: []api.Part{group(number)}, Nth: 1})
	}
	checkOne(t, `s/x/\0&/`, api.Command{Name: 's', Re: "x", Parts: []api.Part{group(0), group(0)}, Nth: 1})
	checkOne(t, `s/\(\(a\)\)/\2/`, api.Command{Name: 's', Re: `\(\(a\)\)`, Parts: []api.Part{group(2)}, Nth: 1})
}

func TestFaultsOfS(t *testing.T) {
	for _, c := range []struct {
		text string
		e    api.Errno
	}{
		{"s/", api.ErrEnd},
		{"s/a", api.ErrEnd},
		{"s/a/", api.ErrEnd},
		{"s/a/b", api.ErrEnd},
		{`s/a\/b/`, api.ErrEnd},
		{`s/a/b\/`, api.ErrEnd},
		{`s/a/b\`, api.ErrEnd},
		{"s/a\n/b/", api.ErrEnd},
		{"s/a\\\n/b/", api.ErrEnd},
		{"s/a/b\n/", api.ErrEnd},
		{`s/\(/b/`, api.ErrParen},
		{`s/\1/b/`, api.ErrBack},
		{`s/[a/b/`, api.ErrEnd},
		{`s/[z-a]/b/`, api.ErrRange},
		{`s/a\{3,2\}/b/`, api.ErrRepeat},
		{`s/` + strings.Repeat("a*", api.MaxBre) + `/b/`, api.ErrLong},
		{`s/a/\1/`, api.ErrBack},
		{`s/\(a\)/\1\2/`, api.ErrBack},
	} {
		checkFault(t, c.text, c.e, 0)
		checkFault(t, "p\n1,$! "+c.text, c.e, 7)
	}
}

func TestFlagsInEveryOrder(t *testing.T) {
	flags := []struct {
		text string
		set  func(c *api.Command)
	}{
		{"g", func(c *api.Command) { c.All = true }},
		{"p", func(c *api.Command) { c.Print = true }},
		{"12", func(c *api.Command) { c.Nth = 12 }},
	}
	var all func(text string, c api.Command, used int)
	all = func(text string, c api.Command, used int) {
		checkOne(t, text, c)
		checkParse(t, text+" \t;p", false, c, api.Command{At: len(text) + 3, Name: 'p'})
		withFile := c
		withFile.File = "f g;p"
		checkParse(t, text+"w f g;p\np", false, withFile, api.Command{At: len(text) + 8, Name: 'p'})
		for i, flag := range flags {
			if used>>i&1 == 0 {
				next := c
				flag.set(&next)
				all(text+flag.text, next, used|1<<i)
			} else if !strings.HasSuffix(text, "2") || i < 2 {
				// Digits behind digits are one number.
				checkFault(t, text+flag.text, api.ErrFlag, len(text))
				checkFault(t, "$!"+text+flag.text+"w", api.ErrFlag, len(text)+2)
			}
		}
	}
	all("s/a/b/", api.Command{Name: 's', Re: "a", Parts: []api.Part{plain("b")}, Nth: 1}, 0)
}

func TestTheNumberOfS(t *testing.T) {
	for _, number := range []int{1, 2, 9, 10, 99, 511, api.MaxCount} {
		digits := strconv.Itoa(number)
		checkOne(t, "s/a/b/"+digits, api.Command{Name: 's', Re: "a", Parts: []api.Part{plain("b")}, Nth: number})
		checkOne(t, "s/a/b/g00"+digits+"p", api.Command{Name: 's', Re: "a", Parts: []api.Part{plain("b")}, Nth: number, All: true, Print: true})
	}
	for _, digits := range []string{"0", "00", "513", "999", "1000", "999999999", "9999999999", "0000000001", "18446744073709551617"} {
		checkFault(t, "s/a/b/"+digits, api.ErrFlag, 6)
		checkFault(t, "s/a/b/gp"+digits+"x", api.ErrFlag, 8)
	}
	checkFault(t, "s/a/b/1g1", api.ErrFlag, 8)
	checkFault(t, "s/a/b/1p0", api.ErrFlag, 8)
	checkFault(t, "s/a/b/0g0", api.ErrFlag, 6)
}

// y.

func TestTablesOfY(t *testing.T) {
	checkOne(t, "y/abc/xyz/", api.Command{Name: 'y', From: "abc", To: "xyz"})
	checkOne(t, "y/ab/bb/", api.Command{Name: 'y', From: "ab", To: "bb"})
	checkOne(t, `y/\n\\\//ab\n/`, api.Command{Name: 'y', From: "\n\\/", To: "ab\n"})
	checkOne(t, `y/\;\-/&./`, api.Command{Name: 'y', From: ";-", To: "&."})
	checkOne(t, `y///`, api.Command{Name: 'y'})
	for _, c := range []struct {
		text string
		e    api.Errno
	}{
		{"y/", api.ErrEnd},
		{"y/a", api.ErrEnd},
		{"y/a/", api.ErrEnd},
		{"y/a/b", api.ErrEnd},
		{`y/a/b\/`, api.ErrEnd},
		{"y/a\n/bc/", api.ErrEnd},
		{"y/a\\\n/bc/", api.ErrEnd},
		{"y/ab/c\n/", api.ErrEnd},
		{"y/ab/c\\\n/", api.ErrEnd},
		{`y/\a/b/`, api.ErrEscape},
		{`y/a/\b/`, api.ErrEscape},
		{`y/\1/b/`, api.ErrEscape},
		{"y/ab/c/", api.ErrMap},
		{"y/a/bc/", api.ErrMap},
		{"y/aa/bc/", api.ErrMap},
		{`y/\n\n/bc/`, api.ErrMap},
	} {
		checkFault(t, c.text, c.e, 0)
		checkFault(t, "p\n1,$! "+c.text, c.e, 7)
	}
}

// The order of the faults.

func TestTwoFaultsAtATime(t *testing.T) {
	// Of one command: what its chapter names first.
	checkFault(t, `s/\(/`, api.ErrEnd, 0)
	checkFault(t, `s/\(/\1`, api.ErrEnd, 0)
	checkFault(t, "s/\\(/a\nb/", api.ErrEnd, 0)
	checkFault(t, `s/\(/\1/`, api.ErrParen, 0)
	checkFault(t, `s/[b-a]/\1/gg`, api.ErrRange, 0)
	checkFault(t, `s/a/\1/gg`, api.ErrBack, 0)
	checkFault(t, `s/a/\1/0`, api.ErrBack, 0)
	checkFault(t, `s/a/\1/k`, api.ErrBack, 0)
	checkFault(t, `s/a/\1/w`, api.ErrBack, 0)
	checkFault(t, `s/a/b/ggk`, api.ErrFlag, 7)
	checkFault(t, `s/a/b/ggw`, api.ErrFlag, 7)
	checkFault(t, `s/a/b/pp0`, api.ErrFlag, 7)
	checkFault(t, `s/a/b/0pp`, api.ErrFlag, 6)
	checkFault(t, `s/a/b/k0`, api.ErrText, 6)
	checkFault(t, `s/a/b/ gg`, api.ErrText, 7)
	checkFault(t, "s/a/b/w\nk", api.ErrName, 0)
	checkFault(t, `y/\a/b`, api.ErrEscape, 0)
	checkFault(t, "y/\\a/b\n/", api.ErrEscape, 0)
	checkFault(t, `y/\a/\`, api.ErrEscape, 0)
	checkFault(t, `y/aa/b`, api.ErrEnd, 0)
	checkFault(t, `y/aa/\b/`, api.ErrEscape, 0)
	checkFault(t, `y/a/bc/k`, api.ErrMap, 0)
	checkFault(t, `y/a/b/k`, api.ErrText, 6)
	// Of a command and its addresses: the one further in front.
	checkFault(t, "0,0k", api.ErrAddress, 0)
	checkFault(t, "1,0k", api.ErrAddress, 2)
	checkFault(t, `/\(/,/[/k`, api.ErrParen, 0)
	checkFault(t, `/a/,/[/k`, api.ErrEnd, 4)
	checkFault(t, `/[b-a]/,/a`, api.ErrRange, 0)
	checkFault(t, "1,k", api.ErrAddress, 2)
	checkFault(t, "1!!k", api.ErrCommand, 2)
	checkFault(t, "1,2s/a", api.ErrEnd, 3)
	// Of two commands: the first one's.
	faults := []struct {
		text string
		e    api.Errno
		at   int
	}{
		{"0p\n", api.ErrAddress, 0},
		{"1,\n", api.ErrAddress, 2},
		{"k\n", api.ErrCommand, 0},
		{"1#\n", api.ErrCommand, 1},
		{"p p\n", api.ErrText, 2},
		{"a\n", api.ErrText, 0},
		{":\n", api.ErrLabel, 0},
		{"r\n", api.ErrName, 0},
		{"s/a\n", api.ErrEnd, 0},
		{"s/a/b/pp\n", api.ErrFlag, 7},
		{`s/\)/b/` + "\n", api.ErrParen, 0},
		{"y/a/bc/\n", api.ErrMap, 0},
		{`y/\a/b/` + "\n", api.ErrEscape, 0},
	}
	for _, first := range faults {
		for _, second := range faults {
			checkFault(t, first.text+second.text, first.e, first.at)
			checkFault(t, "1p;"+first.text+second.text, first.e, first.at+3)
		}
	}
}

// What may stand behind a command.

func TestEachByteBehindACommand(t *testing.T) {
	for _, text := range append(strings.Split(bareNames, ""), "y/a/b/", "s/a/b/", "s/a/b/g", "s/a/b/3p") {
		for _, blanks := range []string{"", " ", "\t \t"} {
			checkNames(t, text+blanks, text[:1], 0)
			for number := range 256 {
				b := string([]byte{byte(number)})
				behind := len(text) + len(blanks)
				switch {
				case strings.Contains(" \t\n;#", b):
					checkNames(t, text+blanks+b, text[:1], 0)
				case b == "}":
					checkNames(t, text+blanks+b, text[:1]+"}", 0, behind)
				case blanks == "" && text[0] == 's' && strings.Contains("gpw0123456789", b):
					// Flags, which have their own tests.
				default:
					checkFault(t, text+blanks+b, api.ErrText, behind)
				}
			}
		}
	}
}

// Behind { and the text of a, i and c the next command may stand at once.
func TestEachCommandBehindAnother(t *testing.T) {
	for _, first := range []string{"{", "a\\\nx\n", "i\\\n\n", "c \\\nx\\\ny\n"} {
		for _, s := range samples() {
			if list, _, fault := Parse(first + s.text); len(list) != 2 || list[1].Name != s.want.Name || list[1].At != len(first) || fault != (api.Fault{}) {
				t.Errorf("Parse(%q) = %v, %v", first+s.text, list, fault)
			}
		}
	}
	for _, first := range []string{"p", "}", "y/a/b/", "s/a/b/"} {
		for _, s := range samples() {
			for _, between := range []string{"\n", ";", " \t;", "#x\n", " \n"} {
				text := first + between + s.text
				if list, _, fault := Parse(text); len(list) != 2 || list[1].Name != s.want.Name || list[1].At != len(first+between) || fault != (api.Fault{}) {
					t.Errorf("Parse(%q) = %v, %v", text, list, fault)
				}
			}
		}
	}
}

// Limits.

func TestTheLengthOfAScript(t *testing.T) {
	checkParse(t, strings.Repeat(" ", api.MaxScript), false)
	checkFault(t, strings.Repeat(" ", api.MaxScript+1), api.ErrTooBig, 0)
	checkParse(t, "#n\n"+strings.Repeat(";", api.MaxScript-3), true)
	checkFault(t, "#n\n"+strings.Repeat(";", api.MaxScript-2), api.ErrTooBig, 0)
	checkFault(t, "#n\nk"+strings.Repeat(";", api.MaxScript), api.ErrTooBig, 0)
	checkFault(t, "k"+strings.Repeat(";", api.MaxScript), api.ErrTooBig, 0)
	checkFault(t, strings.Repeat(";", api.MaxScript-1)+"k", api.ErrCommand, api.MaxScript-1)
	checkFault(t, strings.Repeat(";", api.MaxScript-1)+"1", api.ErrCommand, api.MaxScript)
	checkFault(t, strings.Repeat(";", api.MaxScript)+"k", api.ErrTooBig, 0)
	if list, _, fault := Parse(strings.Repeat("{", api.MaxScript)); len(list) != api.MaxScript || fault != (api.Fault{}) {
		t.Errorf("%d commands, %v", len(list), fault)
	}
	if list, _, fault := Parse(strings.Repeat("}", api.MaxScript)); len(list) != api.MaxScript || fault != (api.Fault{}) {
		t.Errorf("%d commands, %v", len(list), fault)
	}
	long := strings.Repeat("x", api.MaxScript-6)
	checkOne(t, "s/a/"+long+"/ ", api.Command{Name: 's', Re: "a", Parts: []api.Part{plain(long)}, Nth: 1})
	checkOne(t, "a\\\n"+long+"xxx", api.Command{Name: 'a', Text: long + "xxx\n"})
}

func TestTheLengthOfABre(t *testing.T) {
	most := strings.Repeat("a*", api.MaxBre/4) + strings.Repeat("^*", api.MaxBre/4)
	checkOne(t, "/"+most+"/p", api.Command{At: len(most) + 2, A: match(most), Name: 'p'})
	checkOne(t, "s/"+most+"//", api.Command{Name: 's', Re: most, Nth: 1})
	// The backslash that is left out doesn't count.
	checkOne(t, `/\/*`+most[2:]+"/p", api.Command{At: len(most) + 3, A: match("/*" + most[2:]), Name: 'p'})
	checkFault(t, "1,/"+most+"b/p", api.ErrLong, 2)
	checkFault(t, "1s/"+most+"b//", api.ErrLong, 1)
}

// Memory.

// What is answered stays as it is when the bytes that were handed in are written over.
func TestArgumentsAreNotKept(t *testing.T) {
	const text = "/re/,\\,r\\,e,s/R\\(E\\)/x&y\\1z/2gpw file\ny/ab/cd/\na\\\ntext\n:label\nb label;w file2\nr file3"
	bytes := []byte(text)
	list, _, fault := Parse(unsafe.String(&bytes[0], len(bytes)))
	if string(bytes) != text || fault != (api.Fault{}) {
		t.Fatalf("%q is left, %v", bytes, fault)
	}
	clear(bytes)
	if want, _, _ := Parse(text); !same(list, want) || len(list) != 7 {
		t.Errorf("%+v is left, want %+v", list, want)
	}
}

// fill writes over lists, behind their lengths too.
func fill(list []api.Command) {
	for i := range list[:cap(list)] {
		c := &list[:cap(list)][i]
		parts := c.Parts[:cap(c.Parts)]
		for j := range parts {
			parts[j] = api.Part{Group: 77, Text: "over"}
		}
	}
	for i := range list[:cap(list)] {
		list[:cap(list)][i] = api.Command{At: -1, Name: '?', Parts: list[:cap(list)][i].Parts}
	}
}

func TestListsAreNew(t *testing.T) {
	const text = "s/a/x&y/;s/a/x&y/;p;s/a/&&&/\np;p;p;s/a//"
	first, _, _ := Parse(text)
	second, _, _ := Parse(text)
	third, _, _ := Parse(text)
	if !same(first, second) || len(first) != 8 {
		t.Fatalf("%v, then %v", first, second)
	}
	fill(second)
	if !same(first, third) {
		t.Errorf("the first answer is left as %v", first)
	}
	if again, _, _ := Parse(text); !same(again, third) {
		t.Errorf("a later answer is %v, want %v", again, third)
	}
	// No two lists of one answer share memory.
	for i := range first {
		parts := first[i].Parts[:cap(first[i].Parts)]
		for j := range parts {
			parts[j] = api.Part{Group: 77}
		}
		for k := i + 1; k < len(first); k++ {
			if !same(first[k:k+1], third[k:k+1]) {
				t.Errorf("the parts of %d share memory with those of %d", k, i)
			}
		}
	}
}

func TestWhatAFaultSays(t *testing.T) {
	var err error = gaveUp{E: api.ErrFlag, At: 7}
	if err.Error() != "error 20 at 7" {
		t.Errorf("it says %q", err.Error())
	}
}

package show

import (
	"reflect"
	"strconv"
	"strings"
	"testing"
	"unsafe"

	"runnel/api"
	"runnel/script"
)

// read answers what script.Parse tells of a script without a fault, but for the commands' places.
func read(t *testing.T, text string) ([]api.Command, bool) {
	t.Helper()
	list, quiet, fault := script.Parse(text)
	if fault != (api.Fault{}) {
		t.Fatalf("Parse(%.200q): %v", text, fault)
	}
	for i := range list {
		list[i].At = 0
		if len(list[i].Parts) == 0 {
			list[i].Parts = nil
		}
	}
	return list, quiet
}

// checkAgain asks whether what Text has answered is read as the script is, and is itself its one form.
func checkAgain(t *testing.T, text, one string) {
	t.Helper()
	if len(one) > api.MaxScript {
		return
	}
	list, quiet := read(t, text)
	again, quietAgain := read(t, one)
	if len(list) != len(again) || len(list) > 0 && !reflect.DeepEqual(list, again) || quiet != quietAgain {
		t.Fatalf("Text(%.200q) = %.200q is read as %+v, %v, want %+v, %v", text, one, again, quietAgain, list, quiet)
	}
	if two, fault := Text(one); two != one || fault != (api.Fault{}) {
		t.Fatalf("Text(%.200q) = %.200q, %v", one, two, fault)
	}
}

// check holds Text against a one form.
func check(t *testing.T, text, want string) {
	t.Helper()
	one, fault := Text(text)
	if one != want || fault != (api.Fault{}) {
		t.Fatalf("Text(%.200q) = %.200q, %v, want %.200q", text, one, fault, want)
	}
	checkAgain(t, text, one)
}

// checkFault holds Text against a fault, with nothing beside it.
func checkFault(t *testing.T, text string, e api.Errno, at int) {
	t.Helper()
	if one, fault := Text(text); one != "" || fault != (api.Fault{E: e, At: at}) {
		t.Errorf("Text(%.200q) = %.200q, %v, want %d at %d", text, one, fault, e, at)
	}
}

func TestTheChaptersExamples(t *testing.T) {
	check(t, " 1 , 2 ! p ; s,a,b, ", "1,2!p\ns/a/b/\n")
	check(t, "\\,/,d", "\\!/!d\n")
	check(t, "{p}", "{\np\n}\n")
	check(t, "# x", "")
	checkFault(t, "k", api.ErrCommand, 0)
}

func TestQuiet(t *testing.T) {
	check(t, "#n", "#n\n")
	check(t, "#n\n", "#n\n")
	check(t, "#n\n\n# x\n p # y", "#n\np\n")
	check(t, "#n x\np", "p\n")
	check(t, " #n\np", "p\n")
	check(t, "p\n#n", "p\n")
	check(t, "", "")
	check(t, "\n ;\t;\n", "")
}

// sample is a command as it may be written from its name on, and as Text writes it.
type sample struct {
	text, one string
}

// samples has each name at least once.
func samples() []sample {
	list := []sample{
		{"{", "{"},
		{"a\\\nx", "a\\\nx"},
		{"i \t\\\n x", "i\\\n x"},
		{"c\\\n\n", "c\\\n"},
		{":x", ": x"},
		{":\t x y \t", ": x y"},
		{"b", "b"},
		{"b ", "b"},
		{"bx", "b x"},
		{"t", "t"},
		{"t  }#", "t }#"},
		{"rf", "r f"},
		{"r \t f ;g ", "r f ;g "},
		{"wf}", "w f}"},
		{"s/a/b/", "s/a/b/"},
		{"s,a,b,pg3w\tf", "s/a/b/3gpw f"},
		{"y,ab,cd,", "y/ab/cd/"},
		{"s,,,", "s///"},
		{"y|||", "y///"},
	}
	for _, name := range strings.Split("} = d D g G h H l n N p P q x", " ") {
		list = append(list, sample{name, name}, sample{name + " \t", name})
	}
	return list
}

// Each command with no address, one and two of every kind, with and without !.
func TestEachCommandWithEachAddress(t *testing.T) {
	addresses := []sample{
		{"1", "1"}, {"007", "7"}, {"999999999", "999999999"}, {"$", "$"},
		{"/x/", "/x/"}, {"//", "//"}, {`/a\/b/`, `\!a/b!`}, {`\,x,`, "/x/"}, {`\/x/`, "/x/"}, {`\,,`, "//"}, {`\!a/b\!c!`, `\"a/b!c"`},
	}
	ahead := []sample{{"", ""}}
	for _, a := range addresses {
		ahead = append(ahead, a)
		for _, b := range addresses {
			ahead = append(ahead, sample{a.text + "," + b.text, a.one + "," + b.one}, sample{a.text + " ,\t" + b.text + " ", a.one + "," + b.one})
		}
	}
	for _, s := range samples() {
		for _, a := range ahead {
			check(t, a.text+s.text, a.one+s.one+"\n")
			check(t, a.text+"!"+s.text, a.one+"!"+s.one+"\n")
			check(t, " "+a.text+" ! \t"+s.text, a.one+"!"+s.one+"\n")
		}
	}
}

// Each command behind each other one, in lines of their own.
func TestEachCommandBehindAnother(t *testing.T) {
	list := samples()
	for _, a := range list {
		for _, b := range list {
			check(t, a.text+"\n"+b.text, a.one+"\n"+b.one+"\n")
			check(t, "#n\n"+a.text+"\n\n#x\n"+b.text+"\n", "#n\n"+a.one+"\n"+b.one+"\n")
		}
	}
	check(t, "{p;p;{x}};1,2{=}", "{\np\np\n{\nx\n}\n}\n1,2{\n=\n}\n")
}

// Commands that don't go together are written too.
func TestTheListIsNotLookedAt(t *testing.T) {
	check(t, "}", "}\n")
	check(t, "1,2!}", "1,2!}\n")
	check(t, "{{", "{\n{\n")
	check(t, "bx", "b x\n")
	check(t, "1,2q;1:a;:a", "1,2q\n1: a\n: a\n")
	check(t, strings.Repeat("{", 100), strings.Repeat("{\n", 100))
	for i := range 20 {
		check(t, strings.Repeat("w f\n", i)+"w g", strings.Repeat("w f\n", i)+"w g\n")
	}
}

// Texts of a, i and c.

func TestTextsOfCommands(t *testing.T) {
	for _, n := range []string{"a", "i", "c"} {
		head := n + "\\\n"
		for text, one := range map[string]string{
			"\n":                   "\n",
			"\n\n":                 "\n",
			"x":                    "x\n",
			"x\n":                  "x\n",
			"\tx y ;p}#":           "\tx y ;p}#\n",
			"x\\\ny":               "x\\\ny\n",
			"\\\n":                 "\\\n\n",
			"\\\n\\\n\\\n":         "\\\n\\\n\\\n\n",
			"x\\\n\n":              "x\\\n\n",
			"\\x\\y\\ z":           "xy z\n",
			"\\\\":                 "\\\\\n",
			"a\\\\\\\nb\\\\n\\n":   "a\\\\\\\nb\\\\nn\n",
			"\\\\\\\\\\\n\\\\\\\n": "\\\\\\\\\\\n\\\\\\\n\n",
			"\x00\xff/\\/":         "\x00\xff//\n",
		} {
			check(t, head+text, head+one)
			check(t, "p;1!"+n+" \\\n"+text, "p\n1!"+head+one)
		}
		check(t, head+"x\n"+head+"\n"+head+"\\\n\np", head+"x\n"+head+"\n"+head+"\\\n\np\n")
	}
}

// Labels and files.

func TestLabelsAndFiles(t *testing.T) {
	for _, n := range []string{":", "b", "t"} {
		longest := strings.Repeat("l", api.MaxLabel)
		check(t, n+longest+";"+n+"a b\t c ;"+n+" \\n\x00", n+" "+longest+"\n"+n+" a b\t c\n"+n+" \\n\x00\n")
	}
	for _, n := range []string{"r", "w", "s/a/b/w"} {
		longest := strings.Repeat("n", api.MaxName)
		check(t, n+longest+"\n"+n+" a b\t; \np", n+" "+longest+"\n"+n+" a b\t; \np\n")
	}
}

// Flags of s.

func TestTheFlagsOfS(t *testing.T) {
	for _, nth := range []string{"", "1", "01", "2", "002", "512"} {
		for _, g := range []string{"", "g"} {
			for _, p := range []string{"", "p"} {
				for _, w := range []string{"", "w f g", "w\t f g"} {
					want := "s/a/b/" + strings.TrimLeft(nth, "0") + g + p
					if strings.TrimLeft(nth, "0") == "1" {
						want = "s/a/b/" + g + p
					}
					if w != "" {
						want += "w f g"
					}
					for _, flags := range []string{nth + g + p, nth + p + g, g + nth + p, g + p + nth, p + nth + g, p + g + nth} {
						check(t, "s/a/b/"+flags+w, want+"\n")
					}
				}
			}
		}
	}
}

func TestTheReplacementsOfS(t *testing.T) {
	check(t, `s/a/&/`, "s/a/&/\n")
	check(t, `s/a/\0/`, "s/a/&/\n")
	check(t, `s/a/x\&\\y\z\n/`, `s/a/x\&\\yz\n/`+"\n")
	check(t, "s/a/x\\\ny/", `s/a/x\ny/`+"\n")
	check(t, `s/\(a\)\(b\)/\2\1&\12/`, `s/\(a\)\(b\)/\2\1&\12/`+"\n")
	check(t, `s//\9/`, `s//\9/`+"\n")
	check(t, `s,a\,b,\,,`, `s/a,b/,/`+"\n")
	check(t, `s&a&x\&y&`, `s/a/x\&y/`+"\n")
	check(t, `s.a\.b.\..`, `s/a\.b/./`+"\n")
	check(t, `s1a1\1\011`, `s/a/1&/`+"\n")
	check(t, `snanb\nn`, `s/a/bn/`+"\n")
	check(t, "s\x00a\x00b\x00\ns a b \ns\xffa\xffb\xff", "s/a/b/\ns/a/b/\ns/a/b/\n")
}

func TestTheTextsOfY(t *testing.T) {
	check(t, `y/a\n\\/b\\\n/`, `y/a\n\\/b\\\n/`+"\n")
	check(t, `y,\,\/\.,abc,`, `y!,/.!abc!`+"\n")
	check(t, `y/\/\!\"/abc/`, "y#/!\"#abc#\n")
	check(t, `yn\na\\nABCn`, `y/na\\/ABC/`+"\n")
	check(t, "y/\x00\xff/ \t/", "y/\x00\xff/ \t/\n")
}

// Delimiters.

// delimiters are the bytes that may be one, in the order in which they are taken.
func delimiters() []byte {
	list := []byte{'/'}
	for b := byte(33); b <= 126; b++ {
		if b != '/' && b != '\\' {
			list = append(list, b)
		}
	}
	return list
}

// holding answers a BRE in which some bytes stand, and at most a backslash beside them.
func holding(bytes []byte) string {
	return strings.ReplaceAll(string(bytes), "[", `\[`)
}

// putting answers a replacement in which some bytes stand, and at most a backslash beside them.
func putting(bytes []byte) string {
	return strings.ReplaceAll(string(bytes), "&", `\&`)
}

// free answers the first delimiter that stands in none of some texts.
func free(texts ...string) string {
	for _, b := range delimiters() {
		if d := string([]byte{b}); !strings.Contains(strings.Join(texts, ""), d) {
			return d
		}
	}
	return ""
}

// checkTaken asks for the delimiters of an address, of s and of y that have some bytes in their texts.
func checkTaken(t *testing.T, bytes []byte) {
	t.Helper()
	// The byte 200 stands in no text, so it can be around any.
	const d = "\xc8"
	re, put, half := holding(bytes), putting(bytes), len(bytes)/2
	checkWith(t, "1!x\n\\"+d+re+d+"p", "1!x\n", "p\n", re, len(re)+7)
	checkWith(t, "$,\\"+d+re+d+"!p", "$,", "!p\n", re, len(re)+6)
	for _, texts := range []string{re + d, "x" + d + put, re + d + put, holding(bytes[:half]) + d + putting(bytes[half:]), holding(bytes[half:]) + d + putting(bytes[:half])} {
		checkWith(t, "s"+d+texts+d+"2g", "s", "2g\n", texts, 0)
	}
	texts := string(bytes) + d + string(bytes)
	checkWith(t, "p;y"+d+texts+d, "p\ny", "\n", texts, 2)
}

// checkWith holds Text against what stands ahead of texts and behind them, with their delimiter around them; the byte 200 parts the texts from one another.
func checkWith(t *testing.T, text, ahead, behind, between string, at int) {
	t.Helper()
	texts := strings.Split(between, "\xc8")
	d := free(texts...)
	if d == "" {
		checkFault(t, text, api.ErrNone, at)
		return
	}
	back := ""
	if d != "/" && len(texts) == 1 {
		back = `\`
	}
	check(t, text, ahead+back+d+strings.Join(texts, d)+d+behind)
}

// The first, the first two, .. of the delimiters stand in the texts, in the end all of them; and all but one.
func TestEachDelimiter(t *testing.T) {
	list := delimiters()
	if len(list) != 93 {
		t.Fatalf("%d delimiters", len(list))
	}
	for count := range len(list) + 1 {
		checkTaken(t, list[:count])
	}
	for i := range list {
		checkTaken(t, append(append([]byte{}, list[:i]...), list[i+1:]...))
	}
	// Without the / in the texts it is that, whatever else stands there.
	checkTaken(t, list[1:])
}

func TestDelimitersOfEachTextByItself(t *testing.T) {
	check(t, `\,/,,/!/s,/"!#,x,`, `\!/!,/!/s$/"!#$x$`+"\n")
	check(t, `/!/,\,/!,y,/,!,`, `/!/,\"/!"y"/"!"`+"\n")
	check(t, `s,a,/,;s,/,a,;s,a,!,`, "s!a!/!\ns!/!a!\ns/a/!/\n")
	check(t, `y,a,/,;y,/,a,`, "y!a!/!\ny!/!a!\n")
	// What stands outside of the texts doesn't count.
	check(t, "s/a/b/w /!\n/x/r /!", "s/a/b/w /!\n/x/r /!\n")
}

// Bytes that stand in a text only as it is written count: those of a group, and the n of a newline.
func TestDelimitersOfWhatIsWritten(t *testing.T) {
	var ahead []byte
	for _, b := range delimiters() {
		switch b {
		case '&':
			check(t, "s\xc8"+holding(ahead)+"\xc8&\xc8", "s'"+holding(ahead)+"'&'\n")
		case '1':
			check(t, `s`+"\xc8"+holding(ahead)+`\(a\)`+"\xc8"+`\1`+"\xc8", "s2"+holding(ahead)+`\(a\)2\12`+"\n")
		case 'n':
			check(t, "s\xc8"+holding(ahead)+"\xc8\\\n\xc8", "so"+holding(ahead)+`o\no`+"\n")
			from := string(ahead)
			check(t, "y\xc8"+from+"\xc8\\n"+from[1:]+"\xc8", "yo"+from+`o\n`+from[1:]+"o\n")
			check(t, "y\xc8\\n"+from[1:]+"\xc8"+from+"\xc8", `yo\n`+from[1:]+"o"+from+"o\n")
		}
		ahead = append(ahead, b)
	}
}

// No delimiter is left: it is told at the command's name, of the first such command.
func TestNoDelimiterIsLeft(t *testing.T) {
	all := holding(delimiters())
	address := "\\\xc8" + all + "\xc8"
	length := len(address)
	checkFault(t, address+"p", api.ErrNone, length)
	checkFault(t, address+" ! p", api.ErrNone, length+3)
	checkFault(t, "1,"+address+"p", api.ErrNone, length+2)
	checkFault(t, address+","+address+"p", api.ErrNone, 2*length+1)
	checkFault(t, "#n\np;x\n"+address+"=", api.ErrNone, length+7)
	checkFault(t, "s\xc8a\xc8b\xc8;s\xc8"+all+"\xc8b\xc8", api.ErrNone, 7)
	checkFault(t, "p;"+address+"p;"+address+"x", api.ErrNone, length+2)
	// A fault of the script's comes first, wherever it stands.
	checkFault(t, address+"p;k", api.ErrCommand, length+2)
	checkFault(t, address+"p p", api.ErrText, length+2)
	// Bytes that are parted between two addresses leave a delimiter for each.
	half := delimiters()[:46]
	rest := delimiters()[46:]
	check(t, "\\\xc8"+holding(half)+"\xc8,\\\xc8"+holding(rest)+"\xc8p",
		"\\"+free(holding(half))+holding(half)+free(holding(half))+",/"+holding(rest)+"/p\n")
}

// Faults and limits.

func TestFaultsOfTheScript(t *testing.T) {
	checkFault(t, "p;1", api.ErrCommand, 3)
	checkFault(t, "0p", api.ErrAddress, 0)
	checkFault(t, "s/a", api.ErrEnd, 0)
	checkFault(t, "#n\n:", api.ErrLabel, 3)
	checkFault(t, `p;/\(/p`, api.ErrParen, 2)
	checkFault(t, "y/ab/c/", api.ErrMap, 0)
	checkFault(t, strings.Repeat("p;", api.MaxScript/2)+"p", api.ErrTooBig, 0)
}

// Answers may be longer than a script may be; then they are all the same.
func TestLongAnswers(t *testing.T) {
	check(t, strings.Repeat("{", api.MaxScript), strings.Repeat("{\n", api.MaxScript))
	check(t, strings.Repeat("p;", api.MaxScript/2), strings.Repeat("p\n", api.MaxScript/2))
	check(t, strings.Repeat("{", api.MaxScript/2), strings.Repeat("{\n", api.MaxScript/2))
	check(t, strings.Repeat("{", api.MaxScript/2+1), strings.Repeat("{\n", api.MaxScript/2+1))
	check(t, strings.Repeat("bx;", api.MaxScript/3), strings.Repeat("b x\n", api.MaxScript/3))
	long := strings.Repeat("x", api.MaxScript-3)
	check(t, "a\\\n"+long, "a\\\n"+long+"\n")
	check(t, "a\\\n"+long[1:], "a\\\n"+long[1:]+"\n")
	check(t, "s/a/"+long[2:]+"/", "s/a/"+long[2:]+"/\n")
}

// Memory.

// What is answered stays as it is when the bytes that were handed in are written over.
func TestArgumentsAreNotKept(t *testing.T) {
	const want = "/re/,\\!r/e!s/R\\(E\\)/x&y\\1z/2gpw file\ny/ab/cd/\na\\\ntext\n: label\nb label\n"
	for _, text := range []string{want, " " + want, "p", "#n\n"} {
		bytes := []byte(text)
		one, fault := Text(unsafe.String(&bytes[0], len(bytes)))
		if string(bytes) != text || fault != (api.Fault{}) {
			t.Fatalf("%q is left, %v", bytes, fault)
		}
		clear(bytes)
		if again, _ := Text(text); one != again {
			t.Errorf("%q is left, want %q", one, again)
		}
	}
}

func TestNumbers(t *testing.T) {
	for _, number := range []int{1, 9, 10, 511, 512} {
		digits := strconv.Itoa(number)
		check(t, "0"+digits+",00"+digits+"p", digits+","+digits+"p\n")
	}
}

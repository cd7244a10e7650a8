package check

import (
	"reflect"
	"strings"
	"testing"

	"runnel/api"
	"runnel/script"
)

// allNames are the names of commands, as the chapter lists them.
var allNames = strings.Split("{ } a b c d D g G h H i l n N p P q r s t w x y = :", " ")

// read answers the commands of a script that has no fault of its own.
func read(t *testing.T, text string) []api.Command {
	t.Helper()
	list, _, fault := script.Parse(text)
	if fault != (api.Fault{}) {
		t.Fatalf("Parse(%q): %v", text, fault)
	}
	return list
}

// checkScript holds Check of a script's commands against a fault.
func checkScript(t *testing.T, text string, e api.Errno, at int) {
	t.Helper()
	if fault := Check(read(t, text)); fault != (api.Fault{E: e, At: at}) {
		t.Errorf("Check of %.80q = %v, want %d at %d", text, fault, e, at)
	}
}

// checkList holds Check of any commands against a fault.
func checkList(t *testing.T, e api.Errno, at int, list ...api.Command) {
	t.Helper()
	if fault := Check(list); fault != (api.Fault{E: e, At: at}) {
		t.Errorf("Check(%+v) = %v, want %d at %d", list, fault, e, at)
	}
}

func TestTheChaptersExamples(t *testing.T) {
	checkScript(t, "{p", api.ErrBlock, 0)
	checkScript(t, "}", api.ErrBlock, 0)
	checkScript(t, "1,2a\\\nx", api.ErrAddress, 3)
	checkScript(t, "bx", api.ErrLabel, 0)
	checkScript(t, ":a;:a", api.ErrLabel, 3)
	checkScript(t, "1:a", api.ErrAddress, 1)
	checkScript(t, "", api.OK, 0)
}

func TestNoCommands(t *testing.T) {
	for _, list := range [][]api.Command{nil, {}, make([]api.Command, 0, 5)} {
		if fault := Check(list); fault != (api.Fault{}) {
			t.Errorf("Check of none = %v", fault)
		}
	}
}

// around answers a command with a name, and what must stand around it so that it has no other fault.
func around(name byte, c api.Command) []api.Command {
	c.Name, c.At = name, 7
	switch name {
	case '{':
		return []api.Command{c, {Name: '}', At: 8}}
	case '}':
		return []api.Command{{Name: '{', At: 6}, c}
	case ':':
		c.Label = "l"
	}
	return []api.Command{c}
}

// Each byte as a name, alone and with all that could be at fault beside it.
func TestEachByteAsAName(t *testing.T) {
	known := map[byte]bool{}
	for _, name := range allNames {
		known[name[0]] = true
	}
	if len(known) != 26 {
		t.Fatalf("%d names", len(known))
	}
	for number := range 256 {
		name := byte(number)
		if known[name] {
			checkList(t, api.OK, 0, around(name, api.Command{})...)
			continue
		}
		checkList(t, api.ErrCommand, 7, around(name, api.Command{})...)
		checkList(t, api.ErrCommand, 3, api.Command{Name: 'p'}, api.Command{At: 3, Name: name, B: api.Address{Kind: api.ALast}, Not: true, Label: strings.Repeat("l", 99)})
	}
	checkList(t, api.ErrCommand, 0, api.Command{})
}

// Each name with no address, with A, with both, and with B alone, of every kind, with and without Not.
func TestEachNameWithEachAddress(t *testing.T) {
	most := map[string]int{":": 0, "}": 0, "a": 1, "i": 1, "r": 1, "q": 1, "=": 1}
	kinds := []int{api.ANone, api.ALine, api.ALast, api.AMatch, 4, -1, 1 << 40, -1 << 63}
	for _, name := range allNames {
		allowed, bounded := most[name]
		if !bounded {
			allowed = 2
		}
		for _, a := range kinds {
			for _, b := range kinds {
				for _, not := range []bool{false, true} {
					count := 0
					if a != api.ANone {
						count++
					}
					if b != api.ANone {
						count++
					}
					e, at := api.OK, 0
					if count > allowed || b != api.ANone && a == api.ANone || not && allowed == 0 {
						e, at = api.ErrAddress, 7
					}
					checkList(t, e, at, around(name[0], api.Command{A: api.Address{Kind: a}, B: api.Address{Kind: b}, Not: not})...)
				}
			}
		}
	}
}

func TestAddressesOfScripts(t *testing.T) {
	for _, text := range []string{"1a\\\nx", "$!i\\\nx", "1,2c\\\nx", "1r f", "1,2w f", "1q", "/x/!q", "1=", "1,2p", "1,$!s/a/b/", "1,2y/a/b/", "1,2b", "!t", "1,2!{p\n}", "$l"} {
		checkScript(t, text, api.OK, 0)
	}
	for text, at := range map[string]int{"1,2i\\\nx": 3, "1,2!r f": 4, "1,2q": 3, "1,2=": 3, "1,2:a": 3, "!:a": 1, "{1}": 2, "{1,2}": 4, "{!}": 2, "{$!}": 3} {
		checkScript(t, text, api.ErrAddress, at)
	}
}

// Blocks.

// checkNames holds Check of commands that are names alone, each at its place in the text, against a fault.
func checkNames(t *testing.T, names string, e api.Errno, at int) {
	t.Helper()
	var list []api.Command
	for i := range len(names) {
		list = append(list, api.Command{At: i, Name: names[i]})
	}
	checkList(t, e, at, list...)
}

func TestTheDepthOfBlocks(t *testing.T) {
	most := api.MaxBlocks
	deep := func(depth int) string { return strings.Repeat("{", depth) }
	shut := func(depth int) string { return strings.Repeat("}", depth) }
	checkScript(t, deep(most)+shut(most), api.OK, 0)
	checkScript(t, deep(most+1)+shut(most+1), api.ErrTooBig, most)
	checkScript(t, deep(most+2), api.ErrTooBig, most)
	checkScript(t, deep(most), api.ErrBlock, most-1)
	// Blocks that are shut don't count any more.
	checkNames(t, strings.Repeat("{}", 5*most), api.OK, 0)
	checkNames(t, deep(most-1)+strings.Repeat("{}", 5)+shut(most-1), api.OK, 0)
	checkNames(t, deep(most)+"}{{", api.ErrTooBig, most+2)
	checkNames(t, deep(most)+shut(most)+deep(most)+shut(most), api.OK, 0)
	checkNames(t, deep(most)+shut(most)+deep(most+1)+shut(most+1), api.ErrTooBig, 3*most)
	checkNames(t, deep(most)+shut(most)+deep(most), api.ErrBlock, 3*most-1)
}

func TestBlocksThatDontMatch(t *testing.T) {
	checkScript(t, "{}}", api.ErrBlock, 2)
	checkScript(t, "{p;};};{", api.ErrBlock, 5)
	checkScript(t, "p\n}", api.ErrBlock, 2)
	checkNames(t, "{{}{}}}", api.ErrBlock, 6)
	checkNames(t, "p}{", api.ErrBlock, 1)
	// Of those that stay open the one is told that was opened last.
	checkScript(t, "{", api.ErrBlock, 0)
	checkScript(t, "p;{;p", api.ErrBlock, 2)
	checkNames(t, "{{", api.ErrBlock, 1)
	checkNames(t, "{{}", api.ErrBlock, 0)
	checkNames(t, "{{}{", api.ErrBlock, 3)
	checkNames(t, "{{}{}", api.ErrBlock, 0)
	checkNames(t, "{{{}", api.ErrBlock, 1)
	checkNames(t, "{}{{{}}", api.ErrBlock, 2)
	checkScript(t, "1,2!{p", api.ErrBlock, 4)
}

// Labels.

// labelled answers a : with a label.
func labelled(at int, label string) api.Command {
	return api.Command{At: at, Name: ':', Label: label}
}

func TestLabels(t *testing.T) {
	most := strings.Repeat("l", api.MaxLabel)
	checkList(t, api.ErrLabel, 4, labelled(4, ""))
	checkList(t, api.OK, 0, labelled(4, "l"))
	checkList(t, api.OK, 0, labelled(4, most))
	checkList(t, api.ErrLabel, 4, labelled(4, most+"l"))
	checkList(t, api.ErrLabel, 4, labelled(4, strings.Repeat("l", 1<<16)))
	checkList(t, api.OK, 0, labelled(4, "a\n;\x00 \xff"))
	checkList(t, api.OK, 0, labelled(1, "a"), labelled(2, "A"), labelled(3, "a "), labelled(4, "aa"))
	checkList(t, api.ErrLabel, 3, labelled(1, "a"), labelled(2, "b"), labelled(3, "a"), labelled(4, "b"))
	checkList(t, api.ErrLabel, 2, labelled(1, most), labelled(2, most))
	// A label within a block is one of the list's like others.
	checkScript(t, "{:a\n};:a", api.ErrLabel, 6)
	checkScript(t, "{:a\nba\n};ba", api.OK, 0)
	checkScript(t, "{:a\n};{ta\n}", api.OK, 0)
}

func TestLabelsThatAreAskedFor(t *testing.T) {
	most := strings.Repeat("l", api.MaxLabel)
	for _, name := range []string{"b", "t"} {
		checkScript(t, name, api.OK, 0)
		checkScript(t, name+"\n:a", api.OK, 0)
		checkScript(t, name+"a;:a", api.OK, 0)
		checkScript(t, ":a;"+name+"a", api.OK, 0)
		checkScript(t, ":"+most+"\n"+name+most, api.OK, 0)
		checkScript(t, ":"+most+"\n"+name+most[1:], api.ErrLabel, 34)
		checkScript(t, ":b;"+name+"a", api.ErrLabel, 3)
		checkScript(t, name+"a", api.ErrLabel, 0)
		checkScript(t, "p;1,2!"+name+" a", api.ErrLabel, 6)
		checkScript(t, name+"a;"+name+"c;"+name+"d;:a", api.ErrLabel, 3)
		checkScript(t, name+"A;:a", api.ErrLabel, 0)
		// What is asked for may be longer than a label, and then there is none such.
		checkList(t, api.ErrLabel, 9, labelled(4, most), api.Command{At: 9, Name: name[0], Label: most + "l"})
	}
	checkScript(t, "tx;by;:y", api.ErrLabel, 0)
	checkScript(t, "tx;by;:x", api.ErrLabel, 3)
	// Only of : b t is the label looked at.
	for _, name := range allNames {
		if !strings.Contains(":bt", name) {
			checkList(t, api.OK, 0, around(name[0], api.Command{Label: most + most})...)
		}
	}
	checkList(t, api.ErrLabel, 2, api.Command{At: 1, Name: 'p', Label: "a"}, api.Command{At: 2, Name: 'b', Label: "a"})
}

// The order of faults.

func TestTwoFaultsOfOneCommand(t *testing.T) {
	full := func(c api.Command) []api.Command {
		list := make([]api.Command, api.MaxBlocks)
		for i := range list {
			list[i] = api.Command{At: i, Name: '{'}
		}
		return append(list, c)
	}
	both := api.Command{At: 99, B: api.Address{Kind: api.ALine}, Not: true}
	named := func(name byte, label string) api.Command {
		c := both
		c.Name, c.Label = name, label
		return c
	}
	checkList(t, api.ErrCommand, 99, named('k', ""))
	checkList(t, api.ErrAddress, 99, full(named('{', ""))...)
	checkList(t, api.ErrAddress, 99, named('}', ""))
	checkList(t, api.ErrAddress, 99, named(':', ""))
	checkList(t, api.ErrAddress, 99, labelled(1, "a"), named(':', "a"))
	checkList(t, api.ErrAddress, 99, named('b', "x"))
	checkList(t, api.ErrTooBig, 99, full(api.Command{At: 99, Name: '{'})...)
}

func TestFaultsOfTwoCommands(t *testing.T) {
	faulty := []struct {
		e api.Errno
		c api.Command
	}{
		{api.ErrCommand, api.Command{Name: 'k'}},
		{api.ErrAddress, api.Command{Name: 'p', B: api.Address{Kind: api.ALast}}},
		{api.ErrAddress, api.Command{Name: '}', Not: true}},
		{api.ErrBlock, api.Command{Name: '}'}},
		{api.ErrLabel, api.Command{Name: ':'}},
	}
	for _, one := range faulty {
		for _, other := range faulty {
			one.c.At, other.c.At = 50, 20
			checkList(t, one.e, 50, one.c, other.c)
			// What is told when all were gone through stands back behind any of these.
			checkList(t, one.e, 50, api.Command{At: 1, Name: 'b', Label: "x"}, one.c, other.c)
			if one.c.Name != '}' {
				checkList(t, one.e, 50, api.Command{At: 1, Name: '{'}, one.c, other.c)
			}
		}
	}
	// Of these two, a block that is open comes first.
	checkScript(t, "bx;{", api.ErrBlock, 3)
	checkScript(t, "{bx", api.ErrBlock, 0)
	checkScript(t, "bx;{}", api.ErrLabel, 0)
	checkScript(t, "bx;}", api.ErrBlock, 3)
	checkScript(t, "{:a;:a", api.ErrLabel, 4)
	// A } that is at fault shuts nothing, and is told first.
	checkScript(t, "{!}", api.ErrAddress, 2)
}

// The place of a fault is the command's, whatever that is.
func TestThePlaceOfAFault(t *testing.T) {
	for _, at := range []int{0, 1, -1, api.MaxScript, 1 << 62, -1 << 63} {
		checkList(t, api.ErrCommand, at, api.Command{At: at, Name: 'k'})
		checkList(t, api.ErrAddress, at, api.Command{At: at, Name: ':', Not: true})
		checkList(t, api.ErrBlock, at, api.Command{At: at, Name: '}'})
		checkList(t, api.ErrBlock, at, api.Command{At: at, Name: '{'})
		checkList(t, api.ErrLabel, at, labelled(at, ""))
		checkList(t, api.ErrLabel, at, api.Command{At: at, Name: 't', Label: "x"})
	}
	checkList(t, api.OK, 0, api.Command{At: 77, Name: 'p'})
}

// No other field is looked at.
func TestWhatIsNotLookedAt(t *testing.T) {
	odd := api.Command{
		A: api.Address{Line: -5, Re: `\(`}, B: api.Address{Line: 3, Re: "["},
		Text: "x", File: strings.Repeat("/", 99) + "\n", Re: `\)`, Parts: []api.Part{{Group: -7, Text: "x"}},
		Nth: -1, All: true, Print: true, From: "aa", To: "b",
	}
	for _, name := range allNames {
		checkList(t, api.OK, 0, around(name[0], odd)...)
	}
}

// Memory.

func TestListsAreLeftAsTheyAre(t *testing.T) {
	for _, text := range []string{"{p;:a;ba\n}", "{p", "1:a", "bx", "1,2a\\\nx", "s/a/x&y/w f"} {
		list := read(t, text)
		list = append(list, api.Command{Name: 'k', At: 50}, api.Command{Name: '}', At: 51}, labelled(52, "x"))
		want := append([]api.Command(nil), list...)
		given := len(list) - 3
		first := Check(list[:given])
		if !reflect.DeepEqual(list, want) {
			t.Errorf("Check of %q has left %+v, want %+v", text, list, want)
		}
		// What lies behind the length is not read, and nothing is kept from call to call.
		if again := Check(want[:given:given]); again != first {
			t.Errorf("Check of %q = %v with spare room, %v without", text, first, again)
		}
	}
}

func TestLongLists(t *testing.T) {
	var list []api.Command
	for i := range 200000 {
		list = append(list, labelled(i, strings.Repeat("x", i%5)+string([]byte{byte(i), byte(i >> 8), byte(i >> 16)})))
		list = append(list, api.Command{At: i, Name: 'b', Label: list[0].Label}, api.Command{At: i, Name: '{'}, api.Command{At: i, Name: '}'})
	}
	if fault := Check(list); fault != (api.Fault{}) {
		t.Errorf("Check = %v", fault)
	}
	list = append(list, labelled(5, list[400].Label))
	if fault := Check(list); fault != (api.Fault{E: api.ErrLabel, At: 5}) {
		t.Errorf("Check = %v", fault)
	}
}

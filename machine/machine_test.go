package machine

import (
	"fmt"
	"slices"
	"strings"
	"testing"
	"unsafe"

	"runnel/api"
)

// named answers a file, in short.
func named(name, data string) api.File {
	return api.File{Name: name, Data: data}
}

// numbered answers files with names of their own, each with the same data.
func numbered(count int, data string) []api.File {
	var list []api.File
	for i := range count {
		list = append(list, named(fmt.Sprintf("f%02d", i), data))
	}
	return list
}

// ofLength answers a line of as many bytes.
func ofLength(count int) string {
	return strings.Repeat("x", count)
}

var longest = ofLength(api.MaxOut)

// loaded answers a machine of a script that has no fault.
func loaded(t *testing.T, text string, quiet bool, files ...api.File) *Machine {
	t.Helper()
	m, fault := Load(text, quiet, files)
	if m == nil || fault != (api.Fault{}) {
		t.Fatalf("Load(%.60q) = %v, %v", text, m, fault)
	}
	return m
}

// feed feeds lines that are taken.
func feed(t *testing.T, m *Machine, lines ...string) {
	t.Helper()
	for _, line := range lines {
		if e := m.Feed(line); e != api.OK {
			t.Fatalf("Feed(%.40q) = %d", line, e)
		}
	}
}

// finish closes a machine and runs it to its end.
func finish(t *testing.T, m *Machine) {
	t.Helper()
	if e := m.Close(); e != api.OK {
		t.Fatalf("Close = %d", e)
	}
	checkStep(t, m, api.MaxTicks+1, api.Done)
}

// job is a whole run of a script over lines.
type job struct {
	text  string
	quiet bool
	files []api.File
	lines []string
}

// ran answers the machine of a job behind its end.
func ran(t *testing.T, j job) *Machine {
	t.Helper()
	m := loaded(t, j.text, j.quiet, j.files...)
	feed(t, m, j.lines...)
	finish(t, m)
	return m
}

// told is all that a machine tells, but for its files.
type told struct {
	Out, Space, Hold  string
	Line, Ticks, Held int
	E                 api.Errno
}

func (w told) String() string {
	return fmt.Sprintf("Out %.200q of %d bytes, S %.100q of %d, H %.100q of %d, Line %d, Ticks %d, Held %d, Err %d", w.Out, len(w.Out), w.Space, len(w.Space), w.Hold, len(w.Hold), w.Line, w.Ticks, w.Held, w.E)
}

// now answers what a machine tells.
func now(m *Machine) told {
	space, hold := m.Spaces()
	return told{m.Out(), space, hold, m.Line(), m.Ticks(), m.Held(), m.Err()}
}

// check holds what a machine tells against what it must be.
func check(t *testing.T, m *Machine, want told, files ...api.File) {
	t.Helper()
	if got := now(m); got != want {
		t.Errorf("the machine tells\n%v, want\n%v", got, want)
	}
	if got := m.Files(); !slices.Equal(got, files) {
		t.Errorf("Files = %.200q, want %.200q", got, files)
	}
}

// checkOut holds what was printed, and that there was no error.
func checkOut(t *testing.T, m *Machine, want string) {
	t.Helper()
	if m.Out() != want || m.Err() != api.OK {
		t.Errorf("Out = %.200q, Err = %d, want %.200q", m.Out(), m.Err(), want)
	}
}

// checkStep holds what Step answers.
func checkStep(t *testing.T, m *Machine, fuel, want int) {
	t.Helper()
	if state := m.Step(fuel); state != want {
		t.Errorf("Step(%d) = %d behind %d ticks, want %d", fuel, state, m.Ticks(), want)
	}
}

// checkErrno holds an error against the one that must be.
func checkErrno(t *testing.T, what string, got, want api.Errno) {
	t.Helper()
	if got != want {
		t.Errorf("%s = %d, want %d", what, got, want)
	}
}

func TestTheChaptersExamples(t *testing.T) {
	m := loaded(t, "p", false)
	checkStep(t, m, 9, api.Hungry)
	feed(t, m, "a")
	checkStep(t, m, 9, api.Hungry)
	checkErrno(t, "Close", m.Close(), api.OK)
	for i, out := range []string{"", "a\n", "a\na\n"} {
		checkStep(t, m, 1, api.Spent)
		check(t, m, told{Out: out, Space: "a", Line: 1, Ticks: i + 1, Held: 1})
	}
	checkStep(t, m, 1, api.Done)
	check(t, m, told{Out: "a\na\n", Space: "a", Line: 1, Ticks: 3, Held: 1})

	m = ran(t, job{text: ":a;G;h;ba", lines: []string{"a"}})
	checkErrno(t, "Err of spaces that grow", m.Err(), api.ErrSpace)
	m = ran(t, job{text: ":a;ba", lines: []string{"a"}})
	check(t, m, told{Space: "a", Line: 1, Ticks: api.MaxTicks, Held: 1, E: api.ErrTicks})
	m = loaded(t, "p", false)
	checkStep(t, m, 0, api.Spent)
	checkStep(t, m, 0, api.Spent)
	checkErrno(t, "Close", m.Close(), api.OK)
	checkStep(t, m, 0, api.Spent)
	checkStep(t, m, 1, api.Done)
	checkStep(t, m, 0, api.Done)
}

// The examples of the whole, of which each is one script.
func TestTheExamplesOfTheWhole(t *testing.T) {
	for _, c := range []struct {
		job
		want string
	}{
		{job{text: "s/a/b/g", lines: []string{"banana", "cat"}}, "bbnbnb\ncbt\n"},
		{job{text: "$=", quiet: true, lines: []string{"a", "b", "c"}}, "3\n"},
		{job{text: "1!G;h;$p", quiet: true, lines: []string{"a", "b", "c"}}, "c\nb\na\n"},
		{job{text: "$!N;P;D", lines: []string{"a", "b", "c"}}, "a\nb\nc\n"},
		{job{text: `s/\(.*\)x\(.*\)/\2,\1/`, lines: []string{"1x2x3"}}, "3,1x2\n"},
		{job{text: "s/x*/-/g", lines: []string{"abxc"}}, "-a-b-c-\n"},
		{job{text: "/b/,/d/d", lines: []string{"a", "b", "c", "d", "e"}}, "a\ne\n"},
		{job{text: "l", quiet: true, lines: []string{"\t\xc8"}}, "\\t\\310$\n"},
		{job{text: `:a;s/^\(a*\)b/\1a/;ta`, lines: []string{"bbb"}}, "aaa\n"},
		{job{text: "y/abc/xyz/\n2q", lines: []string{"aa", "bb", "cc"}}, "xx\nyy\n"},
	} {
		checkOut(t, ran(t, c.job), c.want)
	}
}

func TestAMachineAtFirst(t *testing.T) {
	for _, text := range []string{"", "#n", "p", "w f", ":a;ba"} {
		m := loaded(t, text, false, named("f", ""), named("g", "ab"))
		check(t, m, told{}, named("f", ""), named("g", "ab"))
	}
	// Files that the script writes are empty from the beginning on, those that it reads stay.
	m := loaded(t, "w f\nr g\ns/a/b/w new", false, named("f", "old"), named("g", "ab"))
	check(t, m, told{}, named("f", ""), named("g", "ab"), named("new", ""))
	m = loaded(t, "w b\nw a\nw b", false)
	check(t, m, told{}, named("a", ""), named("b", ""))
}

// checkLoad holds Load against a fault, with nothing beside it.
func checkLoad(t *testing.T, text string, files []api.File, want api.Fault) {
	t.Helper()
	for _, quiet := range []bool{false, true} {
		if m, fault := Load(text, quiet, files); m != nil || fault != want {
			t.Errorf("Load(%.60q, %v, %.100q) = %v, %v, want %v", text, quiet, files, m, fault, want)
		}
	}
}

// writing answers a script that writes as many files.
func writing(count int) string {
	var text strings.Builder
	for i := range count {
		fmt.Fprintf(&text, "w g%02d\n", i)
	}
	return text.String()
}

func TestLoadOfScriptsWithFaults(t *testing.T) {
	for text, want := range map[string]api.Fault{
		"k":                               {E: api.ErrCommand},
		"p\nk":                            {E: api.ErrCommand, At: 2},
		"p p":                             {E: api.ErrText, At: 2},
		"1,p":                             {E: api.ErrAddress, At: 2},
		`/\(/p`:                           {E: api.ErrParen},
		`s/a/\1/`:                         {E: api.ErrBack},
		"y/ab/c/":                         {E: api.ErrMap},
		"bx":                              {E: api.ErrLabel},
		"p;{p":                            {E: api.ErrBlock, At: 2},
		"p;}":                             {E: api.ErrBlock, At: 2},
		"1,2q":                            {E: api.ErrAddress, At: 3},
		strings.Repeat(" ", 4097):         {E: api.ErrTooBig},
		writing(api.MaxFiles + 1):         {E: api.ErrFull, At: 16 * 6},
		writing(api.MaxFiles) + "s/a/b/w": {E: api.ErrName, At: 16 * 6},
	} {
		checkLoad(t, text, nil, want)
		// A script's fault stands ahead of those of files.
		checkLoad(t, text, []api.File{named("", "")}, want)
		checkLoad(t, text, numbered(api.MaxFiles+1, ""), want)
	}
	loaded(t, strings.Repeat(" ", api.MaxScript), false)
	loaded(t, writing(api.MaxFiles), false)
}

func TestLoadOfFilesThatAreRefused(t *testing.T) {
	// All of these scripts have a file that can't be opened beside 16 others.
	for _, text := range []string{"w g", "s/a/b/w g", writing(api.MaxFiles)} {
		checkLoad(t, text, numbered(api.MaxFiles, ""), api.Fault{E: api.ErrFull})
		checkLoad(t, text, numbered(api.MaxFiles+1, ""), api.Fault{E: api.ErrFull})
		// What is wrong with the files stands ahead of that.
		files := numbered(api.MaxFiles, "")
		files[7].Name = ""
		checkLoad(t, text, files, api.Fault{E: api.ErrName})
		files[7].Name = "f00"
		checkLoad(t, text, files, api.Fault{E: api.ErrArg})
		files[7] = named("f07", longest+"x")
		checkLoad(t, text, files, api.Fault{E: api.ErrLong})
	}
	for _, text := range []string{"", "p", "r g"} {
		loaded(t, text, false, numbered(api.MaxFiles, "")...)
		checkLoad(t, text, numbered(api.MaxFiles+1, ""), api.Fault{E: api.ErrFull})
		checkLoad(t, text, []api.File{named("a\nb", "")}, api.Fault{E: api.ErrName})
		checkLoad(t, text, []api.File{named("f", ""), named("f", "")}, api.Fault{E: api.ErrArg})
		checkLoad(t, text, []api.File{named("f", longest), named("g", "x")}, api.Fault{E: api.ErrLong})
		checkLoad(t, text, []api.File{named("f", ""), named("f", longest+"x"), named("", "")}, api.Fault{E: api.ErrArg})
	}
	// One that there is can be opened, however many there are, and the last place can be taken.
	loaded(t, "w f03", false, numbered(api.MaxFiles, "")...)
	loaded(t, "w g", false, numbered(api.MaxFiles-1, "")...)
	checkLoad(t, "w g\nw h", numbered(api.MaxFiles-1, ""), api.Fault{E: api.ErrFull})
	loaded(t, "p", false, named("f", longest))
}

func TestQuiet(t *testing.T) {
	lines := []string{"a", "b"}
	for _, c := range []struct {
		text  string
		quiet bool
		want  string
	}{
		{"", false, "a\nb\n"},
		{"", true, ""},
		{"#n", false, ""},
		{"#n", true, ""},
		{"#n\n2p", false, "b\n"},
		{"#n\n2p", true, "b\n"},
		{"2p", false, "a\nb\nb\n"},
		{"2p", true, "b\n"},
		{"#n \n2p", false, "a\nb\nb\n"},
		{" #n\n2p", false, "a\nb\nb\n"},
		{"2p\n#n", false, "a\nb\nb\n"},
	} {
		checkOut(t, ran(t, job{text: c.text, quiet: c.quiet, lines: lines}), c.want)
	}
}

func TestANilMachine(t *testing.T) {
	var m *Machine
	for range 2 {
		check(t, m, told{E: api.ErrState})
		for _, line := range []string{"", "a", "a\nb", ofLength(api.MaxSpace + 1)} {
			checkErrno(t, "Feed", m.Feed(line), api.ErrState)
		}
		checkErrno(t, "Close", m.Close(), api.ErrState)
		for _, fuel := range []int{-1, 0, 1, api.MaxTicks + 1} {
			checkStep(t, m, fuel, 0)
		}
	}
}

// view answers a text that lies in bytes that may still be changed.
func view(bytes []byte) string {
	return unsafe.String(&bytes[0], len(bytes))
}

func TestArgumentsAreNotKept(t *testing.T) {
	text := []byte("/a/s//[&]/w g\ny/b/c/\na\\\ntext\nr f\n2{\nbk\n}\ni\\\nmore\n:k")
	name, data, first, second := []byte("f"), []byte("data\n"), []byte("ab"), []byte("ba")
	files := []api.File{named(view(name), view(data)), named("h", "ef"), named("spare", "room")}
	m, fault := Load(view(text), false, files[:2])
	if fault.E != api.OK {
		t.Fatalf("Load: %v", fault)
	}
	if !slices.Equal(files, []api.File{named("f", "data\n"), named("h", "ef"), named("spare", "room")}) {
		t.Errorf("Load has changed the files to %q", files)
	}
	feed(t, m, view(first), view(second))
	for _, bytes := range [][]byte{text, name, data, first, second} {
		clear(bytes)
	}
	clear(files)
	finish(t, m)
	checkOut(t, m, "more\n[a]c\ntext\ndata\nc[a]\ntext\ndata\n")
	if got, want := m.Files(), []api.File{named("f", "data\n"), named("g", "[a]b\nb[a]\n"), named("h", "ef")}; !slices.Equal(got, want) {
		t.Errorf("Files = %q, want %q", got, want)
	}
}

func TestListsAreNew(t *testing.T) {
	m := loaded(t, "w g\nh", false, named("f", "ab"), named("h", "cd"))
	feed(t, m, "one", "two")
	checkStep(t, m, 4, api.Spent)
	want := []api.File{named("f", "ab"), named("g", "one\n"), named("h", "cd")}
	list, other, out := m.Files(), m.Files(), m.Out()
	space, hold := m.Spaces()
	for i := range list[:cap(list)] {
		if i >= len(list) && list[:cap(list)][i] != named("", "") {
			t.Errorf("in the spare room there is %q", list[:cap(list)][i])
		}
		list[:cap(list)][i] = named("?", "?")
	}
	if !slices.Equal(m.Files(), want) {
		t.Errorf("Files = %q, want %q", m.Files(), want)
	}
	finish(t, m)
	if !slices.Equal(other, want) || out != "one\n" || space != "one" || hold != "one" {
		t.Errorf("what was answered has become %q, %q, %q, %q", other, out, space, hold)
	}
	_ = append(other, named("z", "z"))
	check(t, m, told{Out: "one\ntwo\n", Space: "two", Hold: "two", Line: 2, Ticks: 8, Held: 6}, named("f", "ab"), named("g", "one\ntwo\n"), named("h", "cd"))
}

func TestMachinesKnowNothingOfOneAnother(t *testing.T) {
	files := []api.File{named("f", "ab\n")}
	const text = "/x/,/y/s/[xy]/&&/w g\n//!r f\nh"
	one, other := loaded(t, text, false, files...), loaded(t, text, false, files...)
	feed(t, one, "x", "b")
	feed(t, other, "b")
	checkStep(t, one, 9, api.Hungry)
	checkStep(t, other, 9, api.Hungry)
	check(t, other, told{Held: 1}, named("f", "ab\n"), named("g", ""))
	finish(t, one)
	check(t, one, told{Out: "xx\nb\nab\n", Space: "b", Hold: "b", Line: 2, Ticks: 10, Held: 2}, named("f", "ab\n"), named("g", "xx\n"))
	check(t, other, told{Held: 1}, named("f", "ab\n"), named("g", ""))
	// The BRE that the one has used last is not known to the other.
	finish(t, loaded(t, "/a/d", false))
	last := ran(t, job{text: "//d", lines: []string{"a"}})
	checkErrno(t, "Err", last.Err(), api.ErrLast)
	finish(t, other)
	check(t, other, told{Out: "b\nab\n", Space: "b", Hold: "b", Line: 1, Ticks: 5, Held: 2}, named("f", "ab\n"), named("g", ""))
}

// What is told hangs on what was given alone: the same calls tell the same.
func TestTheSameCallsTellTheSame(t *testing.T) {
	lines := []string{"aab", "b", "", "ab"}
	for _, text := range []string{"$!N;P;D", "s/a*/<&>/gw g\nr g", "/a/,/^$/H;x;l"} {
		first := ran(t, job{text: text, lines: lines})
		for range 5 {
			m := ran(t, job{text: text, lines: lines})
			check(t, m, now(first), first.Files()...)
		}
	}
}

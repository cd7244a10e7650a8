package run

import (
	"strings"
	"testing"

	"runnel/api"
)

// scripts are files for -f: s prints, e is empty, h is half a command.
func scripts() []api.File {
	return []api.File{
		named("s", "p\n"), named("e", ""), named("t", "="), named("u", "i\\\nhi\n\n"), named("v", "a\\\nlo\\\n\n"), named("h", "s/a/\\\n"), named("-", "l"), named("-n", "d"), named("n", "\n"),
	}
}

// Each option alone, and every order of them, with what they do seen in the output.
func TestOptionsInEveryOrder(t *testing.T) {
	for _, c := range []struct {
		words []string
		want  string
	}{
		{words("p"), "a\na\n"},
		{words("--", "p"), "a\na\n"},
		{words("-e", "p"), "a\na\n"},
		{words("-f", "s"), "a\na\n"},
		{words("-n", "p"), "a\n"},
		{words("-n", "-n", "p"), "a\n"},
		{words("-n", "--", "p"), "a\n"},
		{words("-n", "-e", "p"), "a\n"},
		{words("-e", "p", "-n"), "a\n"},
		{words("-f", "s", "-n"), "a\n"},
		{words("-n", "-f", "s"), "a\n"},
		{words("-e", "p", "--"), "a\na\n"},
		{words("-f", "s", "--"), "a\na\n"},
		{words("-f", "s", "-n", "--"), "a\n"},
		{words("-n", "-e", "p", "-n", "--"), "a\n"},
		{words("-e", "p", "-e", "="), "a\n1\na\n"},
		{words("-e", "=", "-e", "p"), "1\na\na\n"},
		{words("-e", "=", "-f", "s"), "1\na\na\n"},
		{words("-f", "s", "-e", "="), "a\n1\na\n"},
		{words("-f", "s", "-f", "t"), "a\n1\na\n"},
		{words("-f", "t", "-f", "s"), "1\na\na\n"},
		{words("-f", "s", "-f", "s"), "a\na\na\n"},
		{words("-e", "p", "-e", "p"), "a\na\na\n"},
		{words("-e", "=", "-n", "-e", "p"), "1\na\n"},
		{words("-f", "t", "-n", "-f", "s", "-n"), "1\na\n"},
		{words("-n", "-e", "=", "-n", "-f", "s", "-n", "-e", "l", "--"), "1\na\na$\n"},
	} {
		checkOut(t, c.words, "a\n", c.want, scripts()...)
		checkOut(t, append(c.words, "-"), "a\n", c.want, scripts()...)
	}
}

// Behind -e and -f the next word is taken, whatever it looks like.
func TestTheWordBehindAnOptionIsTaken(t *testing.T) {
	for _, c := range []struct {
		words []string
		want  string
	}{
		{words("-f", "-"), "a$\na\n"},
		{words("-f", "-n"), ""},
		{words("-f", "-n", "-n"), ""},
		{words("-e", ""), "a\n"},
	} {
		checkOut(t, c.words, "a", c.want, scripts()...)
	}
	for _, word := range words("-n", "-e", "-f", "--", "-", "-x") {
		checkFault(t, api.Job{Words: words("-e", word), Input: "a", Fuel: much}, api.ErrCommand, 0)
		checkFault(t, api.Job{Words: words("-e", "p", "-e", word), Input: "a", Fuel: much}, api.ErrCommand, 2)
		checkFault(t, api.Job{Words: words("-f", word), Input: "a", Fuel: much}, api.ErrNone, 1)
	}
}

// -- ends the options: what stands behind is a script or an input.
func TestTheEndOfTheOptions(t *testing.T) {
	for _, c := range []struct {
		words []string
		e     api.Errno
		at    int
	}{
		{words("--", "-n"), api.ErrCommand, 0},
		{words("--", "-x"), api.ErrCommand, 0},
		{words("--", "--"), api.ErrCommand, 0},
		{words("--", "-e"), api.ErrCommand, 0},
		{words("--", "-"), api.ErrCommand, 0},
		{words("-n", "--", "-n", "p"), api.ErrCommand, 0},
	} {
		checkFault(t, api.Job{Words: c.words, Input: "a", Fuel: much}, c.e, c.at)
	}
	in := []api.File{named("--", "1\n"), named("-n", "2\n"), named("-e", "3\n"), named("-x", "4\n")}
	checkOut(t, words("-e", "p", "--", "-n"), "a", "2\n2\n", in...)
	checkOut(t, words("-e", "p", "--", "--"), "a", "1\n1\n", in...)
	checkOut(t, words("--", "p", "--"), "a", "1\n1\n", in...)
	checkOut(t, words("--", "", "-e", "-x", "-", "--"), "a", "3\n4\na\n1\n", in...)
}

// Options end ahead of the first word that doesn't begin with -, or is - alone; what stands behind is no option.
func TestOptionsStandAhead(t *testing.T) {
	in := []api.File{named("--", "1\n"), named("-n", "2\n"), named("-e", "3\n"), named("-x", "4\n"), named("f", "5\n"), named("", "6\n")}
	checkOut(t, words("p", "-n"), "a", "2\n2\n", in[:5]...)
	checkOut(t, words("", "-n", "-e", "-x", "--", "f", "-"), "a", "2\n3\n4\n1\n5\na\n", in[:5]...)
	checkOut(t, words("-e", "=", "f", "-n"), "a", "1\n5\n2\n2\n", in[:5]...)
	checkOut(t, words("-e", "=", "-", "-n"), "a", "1\na\n2\n2\n", in[:5]...)
	// A file that isn't there is no fault, though it looks like an option.
	check(t, api.Job{Words: words("p", "-n", "-f", "-e"), Input: "a", Fuel: much}, api.Result{Status: 1, State: api.Done})
	// - is no option: without a piece it is the script.
	checkFault(t, api.Job{Words: words("-"), Input: "a", Fuel: much}, api.ErrCommand, 0)
	checkFault(t, api.Job{Words: words("-", "p"), Input: "a", Fuel: much}, api.ErrCommand, 0)
	checkFault(t, api.Job{Words: words("-n", "-", "p"), Input: "a", Fuel: much}, api.ErrCommand, 0)
	checkFault(t, api.Job{Words: words("-", "-e", "p"), Input: "a", Fuel: much}, api.ErrCommand, 0)
	checkOut(t, words("-e", "p", "-"), "a", "a\na\n")
	// So is the empty word.
	checkOut(t, words("", "f"), "a", "5\n", in[:5]...)
	checkOut(t, words("-n", ""), "a", "")
	check(t, api.Job{Words: words("-e", "p", ""), Input: "a", Fuel: much}, api.Result{Status: 1, State: api.Done})
}

// The words' faults, each with its place.
func TestFaultsOfTheWords(t *testing.T) {
	for _, c := range []struct {
		words []string
		e     api.Errno
		at    int
	}{
		// The last word.
		{words("-e"), api.ErrNone, 0},
		{words("-f"), api.ErrNone, 0},
		{words("-n", "-e"), api.ErrNone, 1},
		{words("-n", "-n", "-f"), api.ErrNone, 2},
		{words("-e", "p", "-e"), api.ErrNone, 2},
		{words("-e", "-e", "-e"), api.ErrNone, 2},
		{words("-f", "s", "-f"), api.ErrNone, 2},
		{words("-e", "k", "-f"), api.ErrNone, 2},
		// A file that isn't there.
		{words("-f", "none"), api.ErrNone, 1},
		{words("-f", ""), api.ErrNone, 1},
		{words("-f", "S"), api.ErrNone, 1},
		{words("-f", "ss", "p"), api.ErrNone, 1},
		{words("-n", "-f", "none", "in"), api.ErrNone, 2},
		{words("-f", "s", "-e", "p", "-f", "none", "--"), api.ErrNone, 5},
		{words("-f", "none", "-f", "none"), api.ErrNone, 1},
		// Options that are none.
		{words("-x"), api.ErrArg, 0},
		{words("-n", "-x"), api.ErrArg, 1},
		{words("-e", "p", "-x"), api.ErrArg, 2},
		{words("-f", "s", "-n", "-x", "in"), api.ErrArg, 3},
		{words("-x", "-y"), api.ErrArg, 0},
		{words("-ne", "p"), api.ErrArg, 0},
		{words("-nn", "p"), api.ErrArg, 0},
		{words("-ep"), api.ErrArg, 0},
		{words("-fs"), api.ErrArg, 0},
		{words("-N", "p"), api.ErrArg, 0},
		{words("-E", "p"), api.ErrArg, 0},
		{words("-n ", "p"), api.ErrArg, 0},
		{words("---", "p"), api.ErrArg, 0},
		{words("--n", "p"), api.ErrArg, 0},
		{words("- ", "p"), api.ErrArg, 0},
		{words("-\n", "p"), api.ErrArg, 0},
		{words("-\x00", "p"), api.ErrArg, 0},
		// No script.
		{nil, api.ErrNone, 0},
		{words(), api.ErrNone, 0},
		{words("-n"), api.ErrNone, 1},
		{words("--"), api.ErrNone, 1},
		{words("-n", "-n"), api.ErrNone, 2},
		{words("-n", "--"), api.ErrNone, 2},
		{words("-n", "-n", "-n", "--"), api.ErrNone, 4},
	} {
		checkFault(t, api.Job{Words: c.words, Files: scripts(), Input: "a", Fuel: much}, c.e, c.at)
	}
}

// Words are gone through from the front: of two faults the one that stands ahead is told.
func TestTheOrderOfTheWordsFaults(t *testing.T) {
	for _, c := range []struct {
		words []string
		e     api.Errno
		at    int
	}{
		{words("-x", "-e"), api.ErrArg, 0},
		{words("-x", "-f"), api.ErrArg, 0},
		{words("-x", "-f", "none"), api.ErrArg, 0},
		{words("-f", "none", "-x"), api.ErrNone, 1},
		{words("-f", "none", "-e"), api.ErrNone, 1},
		{words("-f", "none", "-f"), api.ErrNone, 1},
		{words("-n", "-x", "-n"), api.ErrArg, 1},
		{words("-x", "--"), api.ErrArg, 0},
		// Behind the options' end there is no option that could be refused.
		{words("--", "k", "-x"), api.ErrCommand, 0},
		{words("k", "-e"), api.ErrCommand, 0},
		{words("-e", "k", "-", "-f"), api.ErrCommand, 0},
	} {
		checkFault(t, api.Job{Words: c.words, Files: scripts(), Input: "a", Fuel: much}, c.e, c.at)
	}
}

// Faults of the words are told ahead of those of the script, those ahead of those of the files; and none of them is a missing input.
func TestTheOrderOfAllFaults(t *testing.T) {
	twice := []api.File{named("f", "p"), named("f", "=")}
	checkFault(t, api.Job{Words: words("-e", "k", "-x"), Files: twice, Fuel: much}, api.ErrArg, 2)
	checkFault(t, api.Job{Words: words("-e", "k", "-e"), Files: twice, Fuel: much}, api.ErrNone, 2)
	checkFault(t, api.Job{Words: words("-e", "k", "-f", "none"), Files: twice, Fuel: much}, api.ErrNone, 3)
	checkFault(t, api.Job{Words: words("-n"), Files: twice, Fuel: much}, api.ErrNone, 1)
	checkFault(t, api.Job{Words: words("p;k", "none"), Files: twice, Fuel: much}, api.ErrCommand, 2)
	checkFault(t, api.Job{Words: words("p", "none"), Files: twice, Fuel: much}, api.ErrArg, 0)
}

// A script in a file: one newline at its end is no part of it.
func TestScriptsInFiles(t *testing.T) {
	// Of the text of u the second newline at the end is left, behind the text of i; of v it is the end of a's text.
	checkOut(t, words("-f", "t"), "a", "1\na\n", scripts()...)
	checkOut(t, words("-f", "s"), "a", "a\na\n", scripts()...)
	checkOut(t, words("-f", "e"), "a", "a\n", scripts()...)
	checkOut(t, words("-f", "n"), "a", "a\n", scripts()...)
	checkOut(t, words("-f", "u", "-e", "p"), "a", "hi\na\na\n", scripts()...)
	checkOut(t, words("-f", "v", "-e", "p"), "a", "a\na\nlo\n\n", scripts()...)
	// How many newlines are left is seen by the place of a fault behind them.
	for count, at := range []int{3, 3, 4, 5} {
		checkFault(t, api.Job{Words: words("-f", "f", "-e", ";k"), Files: []api.File{named("f", "p"+strings.Repeat("\n", count))}, Fuel: much}, api.ErrCommand, at)
	}
	// A backslash and the newline at the end: without that one the backslash is the last byte of a piece.
	checkOut(t, words("-f", "h", "-e", "b/"), "xa", "x\nb\n", scripts()...)
	checkFault(t, api.Job{Words: words("-f", "h"), Files: scripts(), Fuel: much}, api.ErrEnd, 0)
	// A file ends with another byte than a newline.
	checkFault(t, api.Job{Words: words("-f", "f"), Files: []api.File{named("f", "p\r")}, Fuel: much}, api.ErrText, 1)
	checkFault(t, api.Job{Words: words("-f", "f"), Files: []api.File{named("f", "p\n\x00")}, Fuel: much}, api.ErrCommand, 2)
}

// Of several files of one name the first is the script; it is seen by its fault, as such files are refused later.
func TestTheFirstFileOfANameIsTheScript(t *testing.T) {
	for _, c := range []struct {
		first, second string
		e             api.Errno
		at            int
	}{
		{"pk", "p;k", api.ErrText, 1},
		{"p;k", "pk", api.ErrCommand, 2},
		{"p", "k", api.ErrArg, 0},
		{"", "k", api.ErrArg, 0},
	} {
		checkFault(t, api.Job{Words: words("-f", "f"), Files: []api.File{named("g", "}"), named("f", c.first), named("f", c.second), named("f", "}")}, Fuel: much}, c.e, c.at)
	}
}

// Pieces are put together with a newline between each two.
func TestPiecesArePutTogether(t *testing.T) {
	for _, c := range []struct {
		words []string
		want  string
	}{
		{words("-e", "a\\", "-e", "one"), "a\none\n"},
		{words("-e", "i\\", "-e", "one\\", "-e", "two", "-e", "p"), "one\ntwo\na\na\n"},
		{words("-e", "s/a/b\\", "-e", "c/"), "b\nc\n"},
		{words("-e", "/a/{", "-e", "p", "-e", "}"), "a\na\n"},
		{words("-e", "{p", "-e", "p;}"), "a\na\na\n"},
		{words("-e", "r none", "-e", "p"), "a\na\n"},
		{words("-e", "b x", "-e", "p", "-e", ":x"), "a\n"},
		{words("-e", "", "-e", "", "-e", "p"), "a\na\n"},
		{words("-e", "p", "-e", ""), "a\na\n"},
		{words("-e", "c\\", "-e", "", "-e", ""), "\n"},
		{words("-e", "#n", "-e", "p"), "a\n"},
		{words("-e", "", "-e", "#n", "-e", "p"), "a\na\n"},
		{words("-e", "# k", "-e", "p"), "a\na\n"},
		{words("-f", "h", "-e", "=/", "-f", "s"), "\n=\n\n=\n"},
	} {
		checkOut(t, c.words, "a", c.want, scripts()...)
	}
	// What isn't whole with the pieces behind it isn't a command.
	checkFault(t, api.Job{Words: words("-e", "c\\", "-e", ""), Fuel: much}, api.ErrEnd, 0)
	checkFault(t, api.Job{Words: words("-e", "p", "-e", "k"), Fuel: much}, api.ErrCommand, 2)
	checkFault(t, api.Job{Words: words("-e", "", "-e", "", "-e", "k"), Fuel: much}, api.ErrCommand, 2)
	checkFault(t, api.Job{Words: words("-e", "s/a", "-e", "b/"), Fuel: much}, api.ErrEnd, 0)
}

// An empty piece is a piece, and an empty script a script: lines go through as they are.
func TestEmptyScripts(t *testing.T) {
	for _, list := range [][]string{words(""), words("-e", ""), words("-e", "", "-e", ""), words("-f", "e"), words("-f", "n"), words("--", ""), words("-f", "e", "--"), words(" ;\n;")} {
		checkOut(t, list, "a\nb", "a\nb\n", scripts()...)
	}
	for _, list := range [][]string{words("-n", ""), words("-n", "-e", ""), words("-f", "e", "-n"), words("#n")} {
		checkOut(t, list, "a\nb", "", scripts()...)
	}
	// Behind an empty piece the next word is an input, not the script.
	check(t, api.Job{Words: words("-e", "", "p"), Input: "a", Fuel: much}, api.Result{Status: 1, State: api.Done})
	check(t, api.Job{Words: words("-f", "e", "p"), Files: scripts(), Input: "a", Fuel: much}, api.Result{Files: Run(api.Job{Words: words(""), Files: scripts()}).Files, Status: 1, State: api.Done})
}

// The bounds of a script hold for the pieces together.
func TestLongScripts(t *testing.T) {
	half := strings.Repeat(";", 2047)
	checkOut(t, words("-e", half+"p", "-e", half), "a", "a\na\n")
	checkFault(t, api.Job{Words: words("-e", half+"pp", "-e", half), Input: "a", Fuel: much}, api.ErrTooBig, 0)
	checkFault(t, api.Job{Words: words("-e", half+";p", "-e", half), Input: "a", Fuel: much}, api.ErrTooBig, 0)
	whole := strings.Repeat(";", 4095) + "p"
	checkOut(t, words(whole), "a", "a\na\n")
	checkOut(t, words("-f", "f"), "a", "a\na\n", named("f", whole+"\n"))
	checkFault(t, api.Job{Words: words(whole + "\n"), Input: "a", Fuel: much}, api.ErrTooBig, 0)
	checkFault(t, api.Job{Words: words("-f", "f"), Files: []api.File{named("f", whole+"\n\n")}, Input: "a", Fuel: much}, api.ErrTooBig, 0)
}

// Load's faults, with their places, beside a missing input and without one.
func TestFaultsOfLoad(t *testing.T) {
	var many []api.File
	for i := range 17 {
		many = append(many, named("f"+string(rune('a'+i)), ""))
	}
	for _, c := range []struct {
		script string
		files  []api.File
		e      api.Errno
		at     int
	}{
		{"p;k", nil, api.ErrCommand, 2},
		{"pp", nil, api.ErrText, 1},
		{"0p", nil, api.ErrAddress, 0},
		{"p\n/a\\(/p", nil, api.ErrParen, 2},
		{"p;s/a/b/x", nil, api.ErrText, 8},
		{"p;s/a/b/gg", nil, api.ErrFlag, 9},
		{"y/ab/c/", nil, api.ErrMap, 0},
		{"p;{p", nil, api.ErrBlock, 2},
		{"p;}", nil, api.ErrBlock, 2},
		{"p;bx", nil, api.ErrLabel, 2},
		{"1,2q", nil, api.ErrAddress, 3},
		{"p", many, api.ErrFull, 0},
		{"p", []api.File{named("", "")}, api.ErrName, 0},
		{"p", []api.File{named("f", ofLength(32768)), named("g", "x")}, api.ErrLong, 0},
		{"w g", many[:16], api.ErrFull, 0},
	} {
		for _, inputs := range [][]string{nil, {"none"}, {"-", "none"}} {
			checkFault(t, api.Job{Words: append(words(c.script), inputs...), Files: c.files, Input: "a", Fuel: much}, c.e, c.at)
			checkFault(t, api.Job{Words: append(words("-e", c.script), inputs...), Files: c.files, Input: "a"}, c.e, c.at)
		}
	}
	// As much as may be.
	checkOut(t, words("p"), "a", "a\na\n", named("f", ofLength(32768)))
	checkOut(t, words("w fa"), "a", "a\n", many[:16]...)
}

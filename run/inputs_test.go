package run

import (
	"strings"
	"testing"

	"runnel/api"
)

// sources are files with lines and without.
func sources() []api.File {
	return []api.File{
		named("-n", "option\n"), named("empty", ""), named("f", "f1\nf2\n"), named("g", "g1\ng2"), named("gap", "\n\n"), named("long", ofLength(1024)), named("nl", "\n"), named("too", "t\n"+ofLength(1025)+"\nu\n"),
	}
}

// checkInputs holds what is printed of inputs, each line with its number, and the status.
func checkInputs(t *testing.T, inputs []string, input, want string, status int) {
	t.Helper()
	lines := strings.Count(want, "\n") / 2
	check(t, api.Job{Words: append(words("-e", "="), inputs...), Files: sources(), Input: input, Fuel: much}, api.Result{
		Out: want, Files: sources(), Status: status, State: api.Done, Ticks: 3 * lines,
	})
}

func TestInputs(t *testing.T) {
	for _, c := range []struct {
		inputs      []string
		input, want string
		status      int
	}{
		// No word: the standard input.
		{nil, "a\nb", "1\na\n2\nb\n", 0},
		{nil, "a\nb\n", "1\na\n2\nb\n", 0},
		{nil, "\n", "1\n\n", 0},
		{nil, "a\n\n", "1\na\n2\n\n", 0},
		{nil, "", "", 0},
		{words("-"), "a\nb", "1\na\n2\nb\n", 0},
		{words("-"), "", "", 0},
		// A file, in whose place the standard input isn't read.
		{words("f"), "a\nb", "1\nf1\n2\nf2\n", 0},
		{words("g"), "a\nb", "1\ng1\n2\ng2\n", 0},
		{words("empty"), "a", "", 0},
		{words("nl"), "a", "1\n\n", 0},
		{words("--", "-n"), "a", "1\noption\n", 0},
		{words("nl", "-n"), "a", "1\n\n2\noption\n", 0},
		// Several: a line that has no newline at its end is a line of its own.
		{words("f", "g"), "a", "1\nf1\n2\nf2\n3\ng1\n4\ng2\n", 0},
		{words("g", "f"), "a", "1\ng1\n2\ng2\n3\nf1\n4\nf2\n", 0},
		{words("g", "-", "f"), "a", "1\ng1\n2\ng2\n3\na\n4\nf1\n5\nf2\n", 0},
		{words("-", "g"), "a", "1\na\n2\ng1\n3\ng2\n", 0},
		{words("g", "nl", "gap", "empty", "g"), "a", "1\ng1\n2\ng2\n3\n\n4\n\n5\n\n6\ng1\n7\ng2\n", 0},
		// The same one more than once.
		{words("g", "g"), "a", "1\ng1\n2\ng2\n3\ng1\n4\ng2\n", 0},
		{words("-", "-"), "a\nb", "1\na\n2\nb\n3\na\n4\nb\n", 0},
		{words("-", "g", "-"), "a", "1\na\n2\ng1\n3\ng2\n4\na\n", 0},
		{words("empty", "empty", "-", "empty"), "a", "1\na\n", 0},
		{words("-", "f", "-"), "", "1\nf1\n2\nf2\n", 0},
		// Missing ones.
		{words("none"), "a", "", 1},
		{words(""), "a", "", 1},
		{words("none", "none"), "a", "", 1},
		{words("none", "f"), "a", "1\nf1\n2\nf2\n", 1},
		{words("f", "none"), "a", "1\nf1\n2\nf2\n", 1},
		{words("f", "none", "g"), "a", "1\nf1\n2\nf2\n3\ng1\n4\ng2\n", 1},
		{words("none", "-", "", "f", "F"), "a", "1\na\n2\nf1\n3\nf2\n", 1},
		{words("--", "f"), "a", "1\nf1\n2\nf2\n", 0},
		{words("f", "--"), "a", "1\nf1\n2\nf2\n", 1},
		{words("f", "-e", "g"), "a", "1\nf1\n2\nf2\n3\ng1\n4\ng2\n", 1},
		// Lines of as many bytes as may be.
		{words("long", "-"), ofLength(1024), "1\n" + ofLength(1024) + "\n2\n" + ofLength(1024) + "\n", 0},
	} {
		checkInputs(t, c.inputs, c.input, c.want, c.status)
	}
}

// The last line is the last of all inputs that have lines.
func TestTheLastLineOfAll(t *testing.T) {
	for _, c := range []struct {
		inputs []string
		want   string
	}{
		{nil, "2\n"},
		{words("f", "-"), "4\n"},
		{words("f", "-", "empty"), "4\n"},
		{words("f", "empty", "none"), "2\n"},
		{words("none", "f"), "2\n"},
		{words("empty", "empty"), ""},
		{words("f", "f", "f"), "6\n"},
	} {
		r := Run(api.Job{Words: append(words("-n", "-e", "$="), c.inputs...), Files: sources(), Input: "a\nb\n", Fuel: much})
		if r.Out != c.want {
			t.Errorf("%q: Out %q, want %q", c.inputs, r.Out, c.want)
		}
	}
}

// Ranges, spaces and numbers go on from one input to the next.
func TestOneRunOverAllInputs(t *testing.T) {
	checkOut(t, words("-e", "/f2/,/g1/!d", "f", "g"), "", "f2\ng1\n", sources()...)
	checkOut(t, words("-n", "H;$!d;x;l", "f", "g"), "", `\nf1\nf2\ng1\ng2$`+"\n", sources()...)
	checkOut(t, words("$!N;s/\\n/+/", "f", "-", "g"), "a", "f1+f2\na+g1\ng2\n", sources()...)
	checkOut(t, words("3q", "f", "-", "g"), "a", "f1\nf2\na\n", sources()...)
}

// A missing input is told, even where the run ends ahead of it, or has no fuel.
func TestTheStatusOfAMissingInput(t *testing.T) {
	check(t, api.Job{Words: words("q", "-", "none"), Input: "a\nb", Fuel: much}, api.Result{Out: "a\n", Status: 1, State: api.Done, Ticks: 3})
	check(t, api.Job{Words: words("p", "-", "none"), Input: "a\nb", Fuel: 2}, api.Result{Out: "a\n", Status: 1, State: api.Spent, Ticks: 2})
	check(t, api.Job{Words: words("p", "-", "none"), Input: "a\nb", Fuel: 0}, api.Result{Status: 1, State: api.Spent})
	check(t, api.Job{Words: words("p", "none"), Fuel: 0}, api.Result{Status: 1, State: api.Spent})
	// A file that the script makes isn't among those that were there.
	check(t, api.Job{Words: words("w f", "-", "f"), Input: "a", Fuel: much}, api.Result{Out: "a\n", Files: []api.File{named("f", "a\n")}, Status: 1, State: api.Done, Ticks: 3})
	// A missing file of r is none.
	checkOut(t, words("r none"), "a", "a\n")
}

// Files of one name are refused, whichever is meant, and whether it is read or not.
func TestInputsOfOneName(t *testing.T) {
	twice := []api.File{named("f", "1"), named("g", "3"), named("f", "2")}
	for _, inputs := range [][]string{nil, {"-"}, {"f"}, {"g"}, {"none"}} {
		checkFault(t, api.Job{Words: append(words("p"), inputs...), Files: twice, Input: "a", Fuel: much}, api.ErrArg, 0)
	}
}

// The first file of a name is the one that is found.
func TestTheFirstFileIsFound(t *testing.T) {
	texts, missing := open(words("f", "-", "f", "g", "h"), api.Job{Files: []api.File{named("g", "3"), named("f", "1"), named("f", "2"), named("g", "4")}, Input: "in"})
	if want := words("1", "in", "1", "3", ""); strings.Join(texts, "|") != strings.Join(want, "|") || !missing {
		t.Errorf("open answers %q, %v, want %q", texts, missing, want)
	}
}

// A line that is too long ends the run when it is fed: as soon as the machine wants it, not ahead of that.
func TestALineThatIsTooLong(t *testing.T) {
	long := ofLength(1025)
	for _, c := range []struct {
		script, input string
		want          api.Result
	}{
		{"p", long, api.Result{Status: 3, E: api.ErrSpace, State: api.Hungry}},
		{"p", long + "\nb", api.Result{Status: 3, E: api.ErrSpace, State: api.Hungry}},
		// The line ahead of it waits: it isn't known yet whether it is the last one.
		{"p", "a\n" + long, api.Result{Status: 3, E: api.ErrSpace, State: api.Hungry}},
		{"q", "a\n" + long, api.Result{Status: 3, E: api.ErrSpace, State: api.Hungry}},
		{"p", "a\nb\n" + long + "\nc", api.Result{Out: "a\na\n", Status: 3, E: api.ErrSpace, State: api.Hungry, Ticks: 3}},
		{"N;p", "a\nb\n" + long + "\nc", api.Result{Status: 3, E: api.ErrSpace, State: api.Hungry, Ticks: 1}},
		{"$!N", "a\nb\nc\n" + long, api.Result{Out: "a\nb\n", Status: 3, E: api.ErrSpace, State: api.Hungry, Ticks: 3}},
		// A run that has ended, or has no fuel, feeds no more lines.
		{"q", "a\nb\n" + long, api.Result{Out: "a\n", State: api.Done, Ticks: 3}},
		{"s//x/", "a\nb\n" + long, api.Result{Status: 3, E: api.ErrLast, State: api.Done, Ticks: 2}},
		{"p", "a\n" + ofLength(1024), api.Result{Out: "a\na\n" + ofLength(1024) + "\n" + ofLength(1024) + "\n", State: api.Done, Ticks: 6}},
	} {
		check(t, api.Job{Words: words(c.script), Input: c.input, Fuel: much}, c.want)
	}
	check(t, api.Job{Words: words("p"), Input: "a\nb\n" + long, Fuel: 3}, api.Result{Out: "a\na\n", State: api.Spent, Ticks: 3})
	check(t, api.Job{Words: words("p"), Input: "a\nb\n" + long, Fuel: 4}, api.Result{Out: "a\na\n", Status: 3, E: api.ErrSpace, State: api.Hungry, Ticks: 3})
	check(t, api.Job{Words: words("p"), Input: long, Fuel: 0}, api.Result{State: api.Spent})
	check(t, api.Job{Words: words("p", "f", "too"), Files: sources(), Fuel: much}, api.Result{Out: "f1\nf1\nf2\nf2\n", Files: sources(), Status: 3, E: api.ErrSpace, State: api.Hungry, Ticks: 6})
	// What was written ahead is told beside it.
	check(t, api.Job{Words: words("w f\nx"), Input: "a\nb\nc\n" + long, Fuel: much}, api.Result{
		Out: "\na\n", Files: []api.File{named("f", "a\nb\n")}, Status: 3, E: api.ErrSpace, State: api.Hungry, Ticks: 8,
	})
}

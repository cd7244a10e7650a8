package run

import (
	"fmt"
	"slices"
	"strings"
	"testing"

	"runnel/api"
)

// words answers the words of a command line.
func words(list ...string) []string {
	return list
}

// named answers a file, in short.
func named(name, data string) api.File {
	return api.File{Name: name, Data: data}
}

// ofLength answers a line of as many bytes.
func ofLength(count int) string {
	return strings.Repeat("x", count)
}

// much is more fuel than a machine makes ticks.
const much = 2 * api.MaxTicks

// display writes a result, with long texts cut.
func display(r api.Result) string {
	return fmt.Sprintf("Out %.300q of %d bytes, Files %.300q, Status %d, E %d, At %d, State %d, Ticks %d", r.Out, len(r.Out), r.Files, r.Status, r.E, r.At, r.State, r.Ticks)
}

// same tells whether two results are the same in every field.
func same(a, b api.Result) bool {
	return a.Out == b.Out && slices.Equal(a.Files, b.Files) && a.Status == b.Status && a.E == b.E && a.At == b.At && a.State == b.State && a.Ticks == b.Ticks
}

// check holds a job's result against what it must be.
func check(t *testing.T, job api.Job, want api.Result) {
	t.Helper()
	if got := Run(job); !same(got, want) {
		t.Errorf("Run(%.200q, files %.100q, input %.60q, fuel %d) is\n%s, want\n%s", job.Words, job.Files, job.Input, job.Fuel, display(got), display(want))
	}
}

// checkOut holds what a job prints over an input, where nothing goes wrong.
func checkOut(t *testing.T, list []string, input, want string, files ...api.File) {
	t.Helper()
	r := Run(api.Job{Words: list, Files: files, Input: input, Fuel: much})
	if r.Out != want || r.Status != 0 || r.E != api.OK || r.At != 0 || r.State != api.Done {
		t.Errorf("Run(%.200q, files %.100q, input %.60q) is\n%s, want Out %.200q", list, files, input, display(r), want)
	}
}

// checkFault holds the fault by which a job is refused, and that nothing stands beside it.
func checkFault(t *testing.T, job api.Job, e api.Errno, at int) {
	t.Helper()
	check(t, job, api.Result{Status: 2, E: e, At: at})
}

func TestTheChaptersExamples(t *testing.T) {
	check(t, api.Job{Words: words("s/a/b/"), Input: "a\nca", Fuel: 100}, api.Result{Out: "b\ncb\n", State: api.Done, Ticks: 6})
	check(t, api.Job{Words: words("-n", "$="), Input: "a\nca", Fuel: 100}, api.Result{Out: "2\n", State: api.Done, Ticks: 6})
	check(t, api.Job{Words: words("p", "f"), Input: "a\nca", Fuel: 100}, api.Result{Status: 1, State: api.Done})
	check(t, api.Job{Words: words("s/a/b/"), Input: "a\nca", Fuel: 1}, api.Result{State: api.Spent, Ticks: 1})
	checkFault(t, api.Job{Input: "a\nca", Fuel: 100}, api.ErrNone, 0)
	checkFault(t, api.Job{Words: words("-x"), Input: "a\nca", Fuel: 100}, api.ErrArg, 0)
	checkFault(t, api.Job{Words: words("k"), Input: "a\nca", Fuel: 100}, api.ErrCommand, 0)
	check(t, api.Job{Words: words("-e", "w f", "-e", "d"), Input: "a", Fuel: 100}, api.Result{Files: []api.File{named("f", "a\n")}, State: api.Done, Ticks: 4})
	check(t, api.Job{Words: words(":a;ba"), Input: "x", Fuel: 20000}, api.Result{Status: 3, E: api.ErrTicks, State: api.Done, Ticks: 10000})
}

func TestTheTenExamplesOfTheWhole(t *testing.T) {
	for _, c := range []struct {
		words       []string
		input, want string
	}{
		{words("s/a/b/g"), "banana\ncat\n", "bbnbnb\ncbt\n"},
		{words("-n", "$="), "a\nb\nc\n", "3\n"},
		{words("-n", "1!G;h;$p"), "a\nb\nc\n", "c\nb\na\n"},
		{words("$!N;P;D"), "a\nb\nc\n", "a\nb\nc\n"},
		{words(`s/\(.*\)x\(.*\)/\2,\1/`), "1x2x3\n", "3,1x2\n"},
		{words("s/x*/-/g"), "abxc\n", "-a-b-c-\n"},
		{words("/b/,/d/d"), "a\nb\nc\nd\ne\n", "a\ne\n"},
		{words("-n", "l"), "\t\xc8\n", `\t\310$` + "\n"},
		{words(`:a;s/^\(a*\)b/\1a/;ta`), "bbb\n", "aaa\n"},
		{words("-e", "y/abc/xyz/", "-e", "2q"), "aa\nbb\ncc\n", "xx\nyy\n"},
	} {
		checkOut(t, c.words, c.input, c.want)
		// The same without a newline at the input's end.
		checkOut(t, c.words, strings.TrimSuffix(c.input, "\n"), c.want)
	}
}

// All that a fault of the words or of the script leaves is the fault, whatever else there is.
func TestNothingStandsBesideAFault(t *testing.T) {
	files := []api.File{named("f", "one\ntwo\n"), named("s", "k\n")}
	for _, c := range []struct {
		words []string
		e     api.Errno
		at    int
	}{
		{words("-n", "-e"), api.ErrNone, 1},
		{words("-n", "-f", "none"), api.ErrNone, 2},
		{words("-n", "-i", "p", "f"), api.ErrArg, 1},
		{words("-n"), api.ErrNone, 1},
		{words("-f", "s", "f"), api.ErrCommand, 0},
		{words("w g\np;k", "f"), api.ErrCommand, 6},
	} {
		for _, fuel := range []int{-1, 0, 1, much} {
			checkFault(t, api.Job{Words: c.words, Files: files, Input: "a\nb", Fuel: fuel}, c.e, c.at)
		}
	}
}

// What was written ahead of an error is told beside it.
func TestWhatIsToldBesideAnErrorOfTheRun(t *testing.T) {
	files := []api.File{named("z", "end"), named("f", "old")}
	written := []api.File{named("f", "a\n"), named("z", "end")}
	for _, c := range []struct {
		script string
		want   api.Result
	}{
		// The second line meets the error.
		{"w f\n=\n2s//x/", api.Result{Out: "1\na\n2\n", Status: 3, E: api.ErrLast, State: api.Done, Ticks: 9}},
		{"w f\n=\n/b/s//\\1/", api.Result{Out: "1\na\n2\n", Status: 3, E: api.ErrBack, State: api.Done, Ticks: 9}},
	} {
		c.want.Files = []api.File{named("f", "a\nb\n"), named("z", "end")}
		check(t, api.Job{Words: words(c.script), Files: files, Input: "a\nb", Fuel: much}, c.want)
	}
	check(t, api.Job{Words: words("w f\n1!p;:a;s/$/xx/;ta"), Files: files, Input: "a\nb", Fuel: much}, api.Result{
		Files: written, Status: 3, E: api.ErrSpace, State: api.Done, Ticks: 3 + 3*511 + 2,
	})
	check(t, api.Job{Words: words("w f\ni\\\nhere\n:a;l;ba"), Files: files, Input: ofLength(1000), Fuel: much}, api.Result{
		Out: "here\n" + strings.Repeat(strings.Repeat(ofLength(69)+"\\\n", 14)+ofLength(34)+"$\n", 30), Files: []api.File{named("f", ofLength(1000)+"\n"), named("z", "end")},
		Status: 3, E: api.ErrOut, State: api.Done, Ticks: 3 + 3*30 + 2,
	})
	check(t, api.Job{Words: words("w f\n:a;ba"), Files: files, Input: "a\nb", Fuel: much}, api.Result{
		Files: written, Status: 3, E: api.ErrTicks, State: api.Done, Ticks: api.MaxTicks,
	})
	check(t, api.Job{Words: words(`w f` + "\n" + `/\(x*\)*\1/p`), Files: files, Input: ofLength(100), Fuel: much}, api.Result{
		Files: []api.File{named("f", ofLength(100)+"\n"), named("z", "end")}, Status: 3, E: api.ErrWays, State: api.Done, Ticks: 3,
	})
}

// An error of the run is told rather than a missing input.
func TestAnErrorBesideAMissingInput(t *testing.T) {
	check(t, api.Job{Words: words("s//x/", "none", "-"), Input: "a", Fuel: much}, api.Result{Status: 3, E: api.ErrLast, State: api.Done, Ticks: 2})
	check(t, api.Job{Words: words("s//x/", "none", "-"), Fuel: much}, api.Result{Status: 1, State: api.Done})
	check(t, api.Job{Words: words("p", "-", "none"), Input: ofLength(1025), Fuel: much}, api.Result{Status: 3, E: api.ErrSpace, State: api.Hungry})
}

// What a script writes is read again in the same run, and what it read as an input stays as it was handed in.
func TestFilesWrittenAndReadInOneRun(t *testing.T) {
	f := named("f", "1\n2\n")
	check(t, api.Job{Words: words("-n", "-e", "1!r g", "-e", "w g"), Input: "a\nb\nc", Fuel: much}, api.Result{
		Out: "a\nb\na\nb\nc\n", Files: []api.File{named("g", "a\nb\nc\n")}, State: api.Done, Ticks: 12,
	})
	check(t, api.Job{Words: words("r f"), Files: []api.File{f}, Input: "a\nb", Fuel: much}, api.Result{
		Out: "a\n1\n2\nb\n1\n2\n", Files: []api.File{f}, State: api.Done, Ticks: 6,
	})
	check(t, api.Job{Words: words("-n", "r f\ns/^/>/w f", "f"), Files: []api.File{f}, Fuel: much}, api.Result{
		Out: ">1\n>1\n>2\n", Files: []api.File{named("f", ">1\n>2\n")}, State: api.Done, Ticks: 8,
	})
	// A file that is written is empty from the beginning, even if no line comes, or the command is for none.
	check(t, api.Job{Words: words("w f"), Files: []api.File{f}, Fuel: much}, api.Result{Files: []api.File{named("f", "")}, State: api.Done})
	check(t, api.Job{Words: words("9w g\nd", "f"), Files: []api.File{f}, Fuel: much}, api.Result{Files: []api.File{f, named("g", "")}, State: api.Done, Ticks: 8})
	// The names' order is the order of the files, not the order in which they were handed in or opened.
	check(t, api.Job{Words: words("d;w c"), Files: []api.File{named("d", "4"), named("b", "2"), named("aa", "1")}, Input: "x", Fuel: much}, api.Result{
		Files: []api.File{named("aa", "1"), named("b", "2"), named("c", ""), named("d", "4")}, State: api.Done, Ticks: 3,
	})
}

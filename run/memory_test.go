package run

import (
	"slices"
	"testing"
	"unsafe"

	"runnel/api"
)

// view answers a text that lies in bytes that may still be changed.
func view(bytes []byte) string {
	return unsafe.String(&bytes[0], len(bytes))
}

// What is handed in stays as it is, spare room too; what is answered stays as it is when that is changed.
func TestArgumentsAreNotChangedAndNotKept(t *testing.T) {
	piece, file, input, script := []byte("s/a/[&]/w out"), []byte("in"), []byte("ab\nba"), []byte("r f\n")
	name, data := []byte("f"), []byte("data\n")
	list := words("-e", view(piece), "-f", "script", "-", view(file), "spare", "room")
	files := []api.File{named(view(name), view(data)), named("script", view(script)), named(view(file), view(input)), named("spare", "room")}
	wantList, wantFiles := words("-e", "s/a/[&]/w out", "-f", "script", "-", "in", "spare", "room"), []api.File{named("f", "data\n"), named("script", "r f\n"), named("in", "ab\nba"), named("spare", "room")}
	r := Run(api.Job{Words: list[:6], Files: files[:3], Input: view(input), Fuel: much})
	if !slices.Equal(list, wantList) || !slices.Equal(files, wantFiles) {
		t.Errorf("Run has changed the words to %q, the files to %q", list, files)
	}
	for _, bytes := range [][]byte{piece, file, input, script, name, data} {
		clear(bytes)
	}
	clear(list)
	clear(files)
	want := api.Result{
		Out:   "[a]b\ndata\nb[a]\ndata\n[a]b\ndata\nb[a]\ndata\n",
		Files: []api.File{named("f", "data\n"), named("in", "ab\nba"), named("out", "[a]b\nb[a]\n[a]b\nb[a]\n"), named("script", "r f\n")},
		State: api.Done, Ticks: 16,
	}
	if !same(r, want) {
		t.Errorf("what was answered has become\n%s, want\n%s", display(r), display(want))
	}
}

// A refused job leaves what is handed in as it is, too.
func TestArgumentsOfARefusedJob(t *testing.T) {
	for _, list := range [][]string{words("-e", "p", "-x", "spare"), words("-f", "f", "-e", "spare"), words("-n", "-e", "k", "spare"), words("-n", "-n", "-n", "spare")} {
		files := []api.File{named("f", "p\n"), named("f", "q\n"), named("spare", "room")}
		wantList := slices.Clone(list)
		Run(api.Job{Words: list[:3], Files: files[:2], Input: "a", Fuel: much})
		if !slices.Equal(list, wantList) || !slices.Equal(files, []api.File{named("f", "p\n"), named("f", "q\n"), named("spare", "room")}) {
			t.Errorf("Run has changed the words to %q, the files to %q", list, files)
		}
	}
}

// Files that are answered are new memory each time, spare room too.
func TestFilesAreNew(t *testing.T) {
	files := []api.File{named("f", "1\n"), named("g", "2\n")}
	job := api.Job{Words: words("w h", "f"), Files: files, Fuel: much}
	want := []api.File{named("f", "1\n"), named("g", "2\n"), named("h", "1\n")}
	first, second := Run(job).Files, Run(job).Files
	for i := range first[:cap(first)] {
		if i >= len(first) && first[:cap(first)][i] != named("", "") {
			t.Errorf("in the spare room there is %q", first[:cap(first)][i])
		}
		first[:cap(first)][i] = named("?", "?")
	}
	_ = append(second, named("z", "z"))
	if third := Run(job).Files; !slices.Equal(second, want) || !slices.Equal(third, want) {
		t.Errorf("files have become %q and %q, want %q", second, third, want)
	}
	if !slices.Equal(files, []api.File{named("f", "1\n"), named("g", "2\n")}) {
		t.Errorf("the files that were handed in have become %q", files)
	}
}

// nil lists and empty ones are the same.
func TestNilAndEmptyLists(t *testing.T) {
	for _, files := range [][]api.File{nil, {}} {
		check(t, api.Job{Words: words("p"), Files: files, Input: "a", Fuel: much}, api.Result{Out: "a\na\n", State: api.Done, Ticks: 3})
		checkFault(t, api.Job{Words: nil, Files: files}, api.ErrNone, 0)
		checkFault(t, api.Job{Words: []string{}, Files: files}, api.ErrNone, 0)
	}
	checkFault(t, api.Job{}, api.ErrNone, 0)
}

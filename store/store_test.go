package store

import (
	"fmt"
	"slices"
	"strings"
	"testing"
	"unsafe"

	"runnel/api"
)

// named answers a file, in short.
func named(name, data string) api.File {
	return api.File{Name: name, Data: data}
}

// made answers a store of files that have no fault.
func made(t *testing.T, files ...api.File) *Store {
	t.Helper()
	s, e := New(files)
	if s == nil || e != api.OK {
		t.Fatalf("New(%v) = %v, %d", files, s, e)
	}
	return s
}

// given answers what All gives.
func given(s *Store) []api.File {
	var list []api.File
	for name, data := range s.All() {
		list = append(list, named(name, data))
	}
	return list
}

// checkHolds holds all that a store tells against what it must hold.
func checkHolds(t *testing.T, s *Store, out string, written int, files ...api.File) {
	t.Helper()
	if got := s.Out(); got != out {
		t.Errorf("Out = %.60q, want %.60q", got, out)
	}
	if got := s.Written(); got != written {
		t.Errorf("Written = %d, want %d", got, written)
	}
	if got := s.Files(); !slices.Equal(got, files) {
		t.Errorf("Files = %.200q, want %.200q", got, files)
	}
	if got := given(s); !slices.Equal(got, files) {
		t.Errorf("All gives %.200q, want %.200q", got, files)
	}
	for _, f := range files {
		if data, found := s.Read(f.Name); data != f.Data || !found {
			t.Errorf("Read(%q) = %.60q, %v, want %.60q", f.Name, data, found, f.Data)
		}
	}
}

// check holds an error against the one that must be.
func check(t *testing.T, what string, got, want api.Errno) {
	t.Helper()
	if got != want {
		t.Errorf("%s = %d, want %d", what, got, want)
	}
}

// checkNew holds New against an error, with nothing beside it.
func checkNew(t *testing.T, want api.Errno, files ...api.File) {
	t.Helper()
	if s, e := New(files); s != nil || e != want {
		t.Errorf("New(%.200q) = %v, %d, want %d", files, s, e, want)
	}
}

// numbered answers files with names of their own, each with the same data.
func numbered(count int, data string) []api.File {
	var list []api.File
	for i := range count {
		list = append(list, named(fmt.Sprintf("f%02d", i), data))
	}
	return list
}

var longest = strings.Repeat("x", api.MaxOut)

func TestTheChaptersExamples(t *testing.T) {
	s := made(t, named("f", "ab"))
	checkHolds(t, s, "", 0, named("f", "ab"))
	check(t, "Write ahead of Open", s.Write("f", "c"), api.ErrNone)
	check(t, "Open(f)", s.Open("f"), api.OK)
	checkHolds(t, s, "", 0, named("f", ""))
	check(t, "Write(f, c)", s.Write("f", "c"), api.OK)
	check(t, "Open(g)", s.Open("g"), api.OK)
	checkHolds(t, s, "", 1, named("f", "c"), named("g", ""))
	check(t, "Print(x)", s.Print("x"), api.OK)
	checkHolds(t, s, "x", 2, named("f", "c"), named("g", ""))
	checkNew(t, api.ErrName, named("", ""))
	checkNew(t, api.ErrArg, named("f", ""), named("f", ""))
}

func TestNewOfNoFiles(t *testing.T) {
	for _, files := range [][]api.File{nil, {}, make([]api.File, 0, 3)} {
		s := made(t, files...)
		checkHolds(t, s, "", 0)
		if data, found := s.Read("f"); data != "" || found {
			t.Errorf("Read of no file = %q, %v", data, found)
		}
	}
}

// notNames are texts that are no names of files.
var notNames = []string{"", "\n", "a\nb", "a\n", "\x00", "a\x00", strings.Repeat("n", api.MaxName+1)}

func TestNamesThatAreNone(t *testing.T) {
	for _, name := range notNames {
		checkNew(t, api.ErrName, named(name, "a"))
		checkNew(t, api.ErrName, named("f", ""), named(name, "a"))
		s := made(t, named("f", "ab"))
		check(t, "Open of no name", s.Open(name), api.ErrName)
		check(t, "Write of no name", s.Write(name, "a"), api.ErrNone)
		if data, found := s.Read(name); data != "" || found {
			t.Errorf("Read(%q) = %q, %v", name, data, found)
		}
		checkHolds(t, s, "", 0, named("f", "ab"))
	}
	long := strings.Repeat("n", api.MaxName)
	s := made(t, named(long, "a"))
	check(t, "Open of a long name", s.Open(long), api.OK)
	check(t, "Write of a long name", s.Write(long, "bc"), api.OK)
	checkHolds(t, s, "", 2, named(long, "bc"))
}

func TestTheOrderOfNewsErrors(t *testing.T) {
	// That there are too many stands ahead of all.
	many := numbered(api.MaxFiles+1, "")
	many[0].Name, many[1].Data = "", longest+"x"
	checkNew(t, api.ErrFull, many...)
	// Of one file: its name, that it is there, the bytes.
	checkNew(t, api.ErrName, named("", longest+"x"))
	checkNew(t, api.ErrArg, named("f", ""), named("f", longest+"x"))
	checkNew(t, api.ErrLong, named("f", longest+"x"))
	// Of several, the first one's.
	checkNew(t, api.ErrLong, named("f", longest+"x"), named("", ""))
	checkNew(t, api.ErrLong, named("f", longest+"x"), named("f", ""))
	checkNew(t, api.ErrName, named("", ""), named("f", longest+"x"))
	checkNew(t, api.ErrName, named("f", longest), named("", "x"), named("g", "x"))
	checkNew(t, api.ErrArg, named("f", longest), named("f", "x"), named("", "x"))
	checkNew(t, api.ErrLong, named("f", longest), named("g", "x"), named("f", ""))
	checkNew(t, api.ErrArg, named("f", longest), named("g", ""), named("f", ""), named("h", "x"))
	checkNew(t, api.ErrArg, named("a", ""), named("b", ""), named("a", ""), named("", ""))
	checkNew(t, api.ErrName, named("a", ""), named("", ""), named("a", ""))
}

func TestAsManyFilesAsMayBe(t *testing.T) {
	files := numbered(api.MaxFiles, "ab")
	s := made(t, files...)
	checkHolds(t, s, "", 0, files...)
	checkNew(t, api.ErrFull, numbered(api.MaxFiles+1, "")...)
	check(t, "Open of one more", s.Open("g"), api.ErrFull)
	check(t, "Write of one more", s.Write("g", "a"), api.ErrNone)
	checkHolds(t, s, "", 0, files...)
	check(t, "Open of no name", s.Open(""), api.ErrName)
	for i := range files {
		check(t, "Open of one that there is", s.Open(files[i].Name), api.OK)
		files[i].Data = ""
	}
	checkHolds(t, s, "", 0, files...)
	check(t, "Open of one more", s.Open("g"), api.ErrFull)
}

func TestOpenUpToAsManyFilesAsMayBe(t *testing.T) {
	s := made(t)
	var want []api.File
	for i := range api.MaxFiles {
		name := string(rune('A' + i))
		check(t, "Open", s.Open(name), api.OK)
		want = append(want, named(name, ""))
	}
	check(t, "Open of one more", s.Open("z"), api.ErrFull)
	check(t, "Open of one that there is", s.Open("A"), api.OK)
	checkHolds(t, s, "", 0, want...)
}

func TestTheBytesHandedIn(t *testing.T) {
	s := made(t, named("f", longest))
	checkHolds(t, s, "", 0, named("f", longest))
	// They don't count among those written.
	check(t, "Print", s.Print(longest), api.OK)
	checkHolds(t, s, longest, api.MaxOut, named("f", longest))
	piece := longest[:api.MaxOut/api.MaxFiles]
	files := numbered(api.MaxFiles, piece)
	checkHolds(t, made(t, files...), "", 0, files...)
	// The last one is too much, and names don't count.
	files[api.MaxFiles-1].Data += "x"
	checkNew(t, api.ErrLong, files...)
	files[api.MaxFiles-1].Data = piece
	files[0].Data += "x"
	checkNew(t, api.ErrLong, files...)
	files[api.MaxFiles-1].Name = ""
	checkNew(t, api.ErrName, files...)
}

func TestWrite(t *testing.T) {
	s := made(t, named("f", "ab"), named("g", "cd"))
	check(t, "Open(f)", s.Open("f"), api.OK)
	for _, name := range []string{"g", "h", "", "F", "f ", "a\nb"} {
		check(t, "Write of "+name, s.Write(name, "x"), api.ErrNone)
		check(t, "Write of nothing to "+name, s.Write(name, ""), api.ErrNone)
	}
	checkHolds(t, s, "", 0, named("f", ""), named("g", "cd"))
	check(t, "Write", s.Write("f", "one\n"), api.OK)
	check(t, "Write", s.Write("f", ""), api.OK)
	check(t, "Write", s.Write("f", "two\x00\xff"), api.OK)
	checkHolds(t, s, "", 9, named("f", "one\ntwo\x00\xff"), named("g", "cd"))
	// Opened once more, the file is empty, but what was written stays counted.
	check(t, "Open(f)", s.Open("f"), api.OK)
	checkHolds(t, s, "", 9, named("f", ""), named("g", "cd"))
	check(t, "Write", s.Write("f", "x"), api.OK)
	check(t, "Open(g)", s.Open("g"), api.OK)
	check(t, "Write", s.Write("g", "y"), api.OK)
	check(t, "Write", s.Write("f", "z"), api.OK)
	checkHolds(t, s, "", 12, named("f", "xz"), named("g", "y"))
}

func TestPrint(t *testing.T) {
	s := made(t)
	for _, text := range []string{"a\n", "", "b", "\x00\xff"} {
		check(t, "Print", s.Print(text), api.OK)
	}
	checkHolds(t, s, "a\nb\x00\xff", 5)
}

func TestAsManyBytesAsMayBe(t *testing.T) {
	s := made(t, named("f", "old"), named("g", "old"))
	check(t, "Print", s.Print(longest+"x"), api.ErrOut)
	check(t, "Write", s.Write("f", longest+"x"), api.ErrNone)
	check(t, "Open(f)", s.Open("f"), api.OK)
	check(t, "Write", s.Write("f", longest+"x"), api.ErrOut)
	checkHolds(t, s, "", 0, named("f", ""), named("g", "old"))
	check(t, "Write", s.Write("f", longest[:20000]), api.OK)
	check(t, "Print", s.Print(longest[20000:]+"x"), api.ErrOut)
	check(t, "Print", s.Print(longest[20001:]), api.OK)
	check(t, "Write", s.Write("f", "ab"), api.ErrOut)
	check(t, "Print", s.Print("ab"), api.ErrOut)
	checkHolds(t, s, longest[20001:], api.MaxOut-1, named("f", longest[:20000]), named("g", "old"))
	check(t, "Write", s.Write("f", "a"), api.OK)
	for range 2 {
		check(t, "Write", s.Write("f", "b"), api.ErrOut)
		check(t, "Print", s.Print("b"), api.ErrOut)
		check(t, "Write of nothing", s.Write("f", ""), api.OK)
		check(t, "Print of nothing", s.Print(""), api.OK)
		check(t, "Write of no file", s.Write("g", "b"), api.ErrNone)
		checkHolds(t, s, longest[20001:], api.MaxOut, named("f", longest[:20000]+"a"), named("g", "old"))
	}
	// Emptying a file makes no room.
	check(t, "Open(f)", s.Open("f"), api.OK)
	check(t, "Write", s.Write("f", "b"), api.ErrOut)
	checkHolds(t, s, longest[20001:], api.MaxOut, named("f", ""), named("g", "old"))
}

func TestManyShortTexts(t *testing.T) {
	s := made(t)
	check(t, "Open", s.Open("f"), api.OK)
	for range api.MaxOut / 2 {
		check(t, "Write", s.Write("f", "x"), api.OK)
		check(t, "Print", s.Print("x"), api.OK)
	}
	check(t, "Print", s.Print("x"), api.ErrOut)
	half := longest[:api.MaxOut/2]
	checkHolds(t, s, half, api.MaxOut, named("f", half))
}

// Names are held against each other byte by byte, however the files came.
func TestTheOrderOfFiles(t *testing.T) {
	names := []string{" ", "\x01", "0", "10", "9", "A", "Z", "_", "a", "a b", "aa", "ab", "b", "\x7f", "é", "\xff"}
	slices.Sort(names)
	for turn := range names {
		var files []api.File
		for i := range len(names) / 2 {
			name := names[(i*7+turn)%len(names)]
			files = append(files, named(name, "<"+name+">"))
		}
		s := made(t, files...)
		for i := range names {
			name := names[(i*5+turn)%len(names)]
			if _, found := s.Read(name); !found {
				check(t, "Open", s.Open(name), api.OK)
				check(t, "Write", s.Write(name, "<"+name+">"), api.OK)
			}
		}
		var want []api.File
		for _, name := range names {
			want = append(want, named(name, "<"+name+">"))
		}
		for range 3 {
			if got := s.Files(); !slices.Equal(got, want) {
				t.Fatalf("Files = %q, want %q", got, want)
			}
		}
	}
}

func TestAllLeftEarly(t *testing.T) {
	files := numbered(5, "x")
	s := made(t, files...)
	all := s.All()
	for most := range 6 {
		count := 0
		for name, data := range all {
			if count == most {
				break
			}
			if named(name, data) != files[count] {
				t.Errorf("All gives %q, %q at %d", name, data, count)
			}
			count++
		}
		if count != min(most, 5) {
			t.Errorf("%d files of %d", count, most)
		}
		checkHolds(t, s, "", 0, files...)
	}
	// One range within another.
	count := 0
	for range all {
		for range all {
			count++
		}
	}
	if count != 25 {
		t.Errorf("%d pairs", count)
	}
}

// An iterator that was answered tells what the store holds when it is ranged over.
func TestAllBehindChanges(t *testing.T) {
	s := made(t, named("f", "ab"))
	all := s.All()
	check(t, "Open(e)", s.Open("e"), api.OK)
	check(t, "Write", s.Write("e", "c"), api.OK)
	var got []api.File
	for name, data := range all {
		got = append(got, named(name, data))
	}
	if !slices.Equal(got, []api.File{named("e", "c"), named("f", "ab")}) {
		t.Errorf("All gives %q", got)
	}
}

// A store may be told things while its files are gone through.
func TestChangesWithinARange(t *testing.T) {
	s := made(t, named("b", "x"), named("d", "y"))
	for name := range s.All() {
		check(t, "Open", s.Open(name), api.OK)
		check(t, "Open", s.Open("z"+name), api.OK)
		if len(name) > 2 {
			break
		}
	}
	for _, f := range s.Files() {
		if f.Data != "" {
			t.Errorf("the file %q holds %q", f.Name, f.Data)
		}
	}
}

func TestANilStore(t *testing.T) {
	var s *Store
	checkHolds(t, s, "", 0)
	check(t, "Open", s.Open("f"), api.ErrState)
	check(t, "Open of no name", s.Open(""), api.ErrState)
	check(t, "Write", s.Write("f", "a"), api.ErrState)
	check(t, "Write of too much", s.Write("", longest+"x"), api.ErrState)
	check(t, "Print", s.Print("a"), api.ErrState)
	check(t, "Print of too much", s.Print(longest+"x"), api.ErrState)
	if data, found := s.Read("f"); data != "" || found {
		t.Errorf("Read = %q, %v", data, found)
	}
	checkHolds(t, s, "", 0)
}

func TestStoresKnowNothingOfOneAnother(t *testing.T) {
	files := []api.File{named("f", "ab")}
	one, other := made(t, files...), made(t, files...)
	check(t, "Open", one.Open("f"), api.OK)
	check(t, "Write", one.Write("f", "x"), api.OK)
	check(t, "Print", one.Print(longest[1:]), api.OK)
	checkHolds(t, other, "", 0, files...)
	check(t, "Write", other.Write("f", "x"), api.ErrNone)
	check(t, "Print", other.Print(longest), api.OK)
}

// view answers a text that lies in bytes that may still be changed.
func view(bytes []byte) string {
	return unsafe.String(&bytes[0], len(bytes))
}

func TestArgumentsAreNotKept(t *testing.T) {
	name, data, text, opened := []byte("f"), []byte("ab"), []byte("cd"), []byte("g")
	files := []api.File{named(view(name), view(data)), named("h", "ef"), named("", "spare")}
	s := made(t, files[:2]...)
	if files[0] != named("f", "ab") || files[1] != named("h", "ef") || files[2] != named("", "spare") {
		t.Errorf("New has changed the files to %q", files)
	}
	check(t, "Open", s.Open(view(opened)), api.OK)
	check(t, "Write", s.Write(view(opened), view(text)), api.OK)
	check(t, "Print", s.Print(view(text)), api.OK)
	copy(name, "x")
	copy(data, "xx")
	copy(text, "xx")
	copy(opened, "x")
	clear(files)
	checkHolds(t, s, "cd", 4, named("f", "ab"), named("g", "cd"), named("h", "ef"))
}

// What was answered stays as it was.
func TestListsAreNew(t *testing.T) {
	s := made(t, named("f", "ab"), named("g", "cd"), named("h", "ef"))
	check(t, "Open", s.Open("f"), api.OK)
	check(t, "Write", s.Write("f", "x"), api.OK)
	check(t, "Print", s.Print("x"), api.OK)
	list, out := s.Files(), s.Out()
	data, _ := s.Read("f")
	other := s.Files()
	for i := range list {
		list[i] = named("?", "?")
	}
	for i, spare := len(list), list[:cap(list)]; i < cap(list); i++ {
		if spare[i] != named("", "") {
			t.Errorf("in the spare room there is %q", spare[i])
		}
		spare[i] = named("?", "?")
	}
	checkHolds(t, s, "x", 2, named("f", "x"), named("g", "cd"), named("h", "ef"))
	check(t, "Write", s.Write("f", "y"), api.OK)
	check(t, "Print", s.Print("y"), api.OK)
	check(t, "Open", s.Open("g"), api.OK)
	if out != "x" || data != "x" || !slices.Equal(other, []api.File{named("f", "x"), named("g", "cd"), named("h", "ef")}) {
		t.Errorf("what was answered has become %q, %q, %q", out, data, other)
	}
	_ = append(other, named("z", "z"))
	checkHolds(t, s, "xy", 4, named("f", "xy"), named("g", ""), named("h", "ef"))
}

package store

import (
	"math/rand"
	"slices"
	"strings"
	"testing"

	"runnel/api"
)

// A second store: the files as they came, and all texts that were laid down, each with where; what a file holds is found out from the beginning each time.

type slowStore struct {
	names []string
	laid  []api.File // Name "": the standard output; Name "!f": the file f is opened; Name "<f": what f was given
}

func newSlow(files []api.File) (*slowStore, api.Errno) {
	if len(files) > 16 {
		return nil, api.ErrFull
	}
	s := &slowStore{}
	for i, f := range files {
		if f.Name == "" || len(f.Name) > 64 || strings.ContainsAny(f.Name, "\n\x00") {
			return nil, api.ErrName
		}
		if slices.Contains(s.names, f.Name) {
			return nil, api.ErrArg
		}
		all := ""
		for _, ahead := range files[:i+1] {
			all += ahead.Data
		}
		if len(all) > 32768 {
			return nil, api.ErrLong
		}
		s.names = append(s.names, f.Name)
		s.laid = append(s.laid, named("<"+f.Name, f.Data))
	}
	return s, api.OK
}

func (s *slowStore) Open(name string) api.Errno {
	if name == "" || len(name) > 64 || strings.ContainsAny(name, "\n\x00") {
		return api.ErrName
	}
	if !slices.Contains(s.names, name) {
		if len(s.names) >= 16 {
			return api.ErrFull
		}
		s.names = append(s.names, name)
	}
	s.laid = append(s.laid, named("!"+name, ""))
	return api.OK
}

func (s *slowStore) lay(name, text string) api.Errno {
	if s.Written()+len(text) > 32768 {
		return api.ErrOut
	}
	s.laid = append(s.laid, named(name, text))
	return api.OK
}

func (s *slowStore) Write(name, text string) api.Errno {
	if !slices.Contains(s.laid, named("!"+name, "")) {
		return api.ErrNone
	}
	return s.lay("="+name, text)
}

func (s *slowStore) Written() int {
	count := 0
	for _, l := range s.laid {
		if l.Name == "" || l.Name[0] == '=' {
			count += len(l.Data)
		}
	}
	return count
}

func (s *slowStore) Out() string {
	out := ""
	for _, l := range s.laid {
		if l.Name == "" {
			out += l.Data
		}
	}
	return out
}

func (s *slowStore) Files() []api.File {
	var list []api.File
	for _, name := range s.names {
		f := named(name, "")
		for _, l := range s.laid {
			switch l.Name {
			case "!" + name:
				f.Data = ""
			case "=" + name, "<" + name:
				f.Data += l.Data
			}
		}
		list = append(list, f)
	}
	slices.SortFunc(list, func(a, b api.File) int { return strings.Compare(a.Name, b.Name) })
	return list
}

// slowNames are the names of these tests.
var slowNames = []string{"f", "g", "e", "", "a\nb"}

// texts are what is laid down in these tests.
var texts = []string{"", "ab", "c", longest[:16384], longest[1:]}

// do makes one call of both stores, and holds all that they tell against each other.
func do(t *testing.T, s *Store, slow *slowStore, kind int, name, text string) api.Errno {
	t.Helper()
	var e, want api.Errno
	switch kind {
	case 0:
		e, want = s.Open(name), slow.Open(name)
	case 1:
		e, want = s.Write(name, text), slow.Write(name, text)
	case 2:
		e, want = s.Print(text), slow.lay("", text)
	}
	if e != want {
		t.Fatalf("the call %d of %q and %d bytes answers %d, want %d", kind, name, len(text), e, want)
	}
	checkHolds(t, s, slow.Out(), slow.Written(), slow.Files()...)
	for _, name := range slowNames {
		if _, found := s.Read(name); found != slices.Contains(slow.names, name) {
			t.Fatalf("Read(%q) tells %v", name, found)
		}
	}
	if t.Failed() {
		t.Fatalf("behind the call %d of %q and %d bytes", kind, name, len(text))
	}
	return e
}

// All lists of a few calls, with few names and texts.
func TestAllShortListsOfCalls(t *testing.T) {
	type call struct {
		kind       int
		name, text string
	}
	calls := []call{
		{0, "f", ""}, {0, "g", ""}, {0, "", ""},
		{1, "f", "a"}, {1, "g", "bc"}, {1, "f", longest[1:]},
		{2, "", "d"}, {2, "", longest[1:]},
	}
	count := map[api.Errno]int{}
	total := len(calls) * len(calls) * len(calls) * len(calls)
	for _, files := range [][]api.File{nil, {named("f", "old")}} {
		for list := range total {
			s := made(t, files...)
			slow, _ := newSlow(files)
			for rest := list; rest > 0; rest /= len(calls) {
				c := calls[rest%len(calls)]
				count[do(t, s, slow, c.kind, c.name, c.text)]++
			}
		}
	}
	for _, e := range []api.Errno{api.OK, api.ErrName, api.ErrNone, api.ErrOut} {
		if count[e] < 500 {
			t.Errorf("the error %d was met %d times only", e, count[e])
		}
	}
}

// Files by chance, handed in and opened, more than may be too.
func TestRandomCalls(t *testing.T) {
	random := rand.New(rand.NewSource(24))
	count := map[api.Errno]int{}
	name := func() string {
		if random.Intn(3) == 0 {
			return slowNames[random.Intn(len(slowNames))]
		}
		return string(rune('a' + random.Intn(26)))
	}
	for range 1500 {
		var files []api.File
		for range random.Intn(19) {
			text := texts[random.Intn(3)]
			if random.Intn(12) == 0 {
				text = texts[random.Intn(len(texts))]
			}
			files = append(files, named(name(), text))
		}
		if random.Intn(2) == 0 {
			files = files[:min(len(files), 3)]
		}
		s, e := New(files)
		slow, want := newSlow(files)
		if e != want || (s == nil) != (slow == nil) {
			t.Fatalf("New(%.300q) = %v, %d, want %d", files, s, e, want)
		}
		count[e]++
		if s == nil {
			continue
		}
		for range 30 {
			text := texts[random.Intn(3)]
			if random.Intn(20) == 0 {
				text = texts[random.Intn(len(texts))]
			}
			count[do(t, s, slow, random.Intn(3), name(), text)]++
		}
	}
	for _, e := range []api.Errno{api.OK, api.ErrFull, api.ErrName, api.ErrArg, api.ErrLong, api.ErrNone, api.ErrOut} {
		if count[e] < 20 {
			t.Errorf("the error %d was met %d times only", e, count[e])
		}
	}
}

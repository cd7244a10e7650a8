package scan

import (
	"math/rand"
	"regexp"
	"strings"
	"testing"

	"runnel/api"
)

// escaped tells whether a byte has a backslash ahead of it: those that stand directly ahead are odd in number.
func escaped(text string, from, at int) bool {
	run := 0
	for at-run > from && text[at-run-1] == '\\' {
		run++
	}
	return run%2 == 1
}

// slowUntil looks for the delimiter's place first, then for newlines ahead of it, and then leaves backslashes out.
func slowUntil(text string, at int, delim byte, lines bool) (string, int, api.Errno) {
	end := at
	for end < len(text) && (text[end] != delim || escaped(text, at, end)) {
		end++
	}
	if end == len(text) {
		return "", 0, api.ErrEnd
	}
	for place := at; place < end; place++ {
		if text[place] == '\n' && (!lines || !escaped(text, at, place)) {
			return "", 0, api.ErrEnd
		}
	}
	piece := ""
	for place := at; place < end; place++ {
		ahead := text[place] == '\\' && !escaped(text, at, place) && text[place+1] == delim
		if !ahead || strings.Contains(".[*^$&", string(delim)) {
			piece += text[place : place+1]
		}
	}
	return piece, end + 1, api.OK
}

var (
	opening = regexp.MustCompile(`^[ \t]*\\\n`)
	body    = regexp.MustCompile(`^(?s:[^\\\n]|\\.)*`)
	pair    = regexp.MustCompile(`(?s)\\(.)`)
)

// slowText cuts the text out by regular expressions.
func slowText(text string, at int) (string, int, api.Errno) {
	head := opening.FindString(text[at:])
	if head == "" {
		return "", 0, api.ErrText
	}
	rest := text[at+len(head):]
	raw := body.FindString(rest)
	if rest == "" || strings.HasPrefix(rest[len(raw):], `\`) {
		return "", 0, api.ErrEnd
	}
	next := min(at+len(head)+len(raw)+1, len(text))
	return pair.ReplaceAllString(raw, "$1") + "\n", next, api.OK
}

// slowUpTo is Line and Word by the library's cutting.
func slowUpTo(text string, at int, ends string) (string, int) {
	rest := strings.TrimLeft(text[at:], " \t")
	first := len(text) - len(rest)
	if end := strings.IndexAny(rest, ends); end >= 0 {
		return rest[:end], first + end
	}
	return rest, len(text)
}

// checkAll holds every call at a place against its slow form.
func checkAll(t *testing.T, text string, at int) {
	t.Helper()
	if s, want := Blanks(text, at), len(text)-len(strings.TrimLeft(text[at:], " \t")); s != want {
		t.Fatalf("Blanks(%q, %d) = %d, want %d", text, at, s, want)
	}
	for _, delim := range []byte("/.na&1") {
		for _, lines := range []bool{false, true} {
			s, next, e := Until(text, at, delim, lines)
			want, wantNext, wantE := slowUntil(text, at, delim, lines)
			if s != want || next != wantNext || e != wantE {
				t.Fatalf("Until(%q, %d, %q, %v) = %q, %d, %d, want %q, %d, %d", text, at, delim, lines, s, next, e, want, wantNext, wantE)
			}
		}
	}
	s, next, e := Text(text, at)
	if want, wantNext, wantE := slowText(text, at); s != want || next != wantNext || e != wantE {
		t.Fatalf("Text(%q, %d) = %q, %d, %d, want %q, %d, %d", text, at, s, next, e, want, wantNext, wantE)
	}
	s, next = Line(text, at)
	if want, wantNext := slowUpTo(text, at, "\n"); s != want || next != wantNext {
		t.Fatalf("Line(%q, %d) = %q, %d, want %q, %d", text, at, s, next, want, wantNext)
	}
	s, next = Word(text, at)
	if want, wantNext := slowUpTo(text, at, "\n;"); s != strings.TrimRight(want, " \t") || next != wantNext {
		t.Fatalf("Word(%q, %d) = %q, %d, want %q, %d", text, at, s, next, want, wantNext)
	}
}

// Every text of up to five bytes that mean something, at each of its places; and behind what opens a text.
func TestSmallTexts(t *testing.T) {
	const alphabet = "a\\/\n ;."
	var read func(text string, more int)
	read = func(text string, more int) {
		for at := range len(text) + 1 {
			checkAll(t, text, at)
		}
		if more > 0 {
			for _, b := range []byte(alphabet) {
				read(text+string(b), more-1)
			}
		}
	}
	read("", 5)
	read("\\\n", 5)
	read(" \\\n", 4)
}

func TestRandomTexts(t *testing.T) {
	pieces := []string{"a", "bc", "/", ".", `\`, `\\`, "\\\n", "\n", " ", "\t", ";", "&", "1", `\/`, `\.`, `\n`, "\x00", "\xff"}
	chance := rand.New(rand.NewSource(17))
	for range 20000 {
		var text strings.Builder
		for range chance.Intn(12) {
			text.WriteString(pieces[chance.Intn(len(pieces))])
		}
		checkAll(t, text.String(), chance.Intn(text.Len()+1))
	}
}

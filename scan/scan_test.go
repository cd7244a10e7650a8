package scan

import (
	"math"
	"strings"
	"testing"
	"unsafe"

	"runnel/api"
)

func checkBlanks(t *testing.T, text string, at, want int) {
	t.Helper()
	if next := Blanks(text, at); next != want {
		t.Errorf("Blanks(%q, %d) = %d, want %d", text, at, next, want)
	}
}

func checkNumber(t *testing.T, text string, at, number, next int) {
	t.Helper()
	if n, to, e := Number(text, at); n != number || to != next || e != api.OK {
		t.Errorf("Number(%q, %d) = %d, %d, %d, want %d, %d", text, at, n, to, e, number, next)
	}
}

func checkNoNumber(t *testing.T, text string, at int, want api.Errno) {
	t.Helper()
	if n, next, e := Number(text, at); n != 0 || next != 0 || e != want {
		t.Errorf("Number(%q, %d) = %d, %d, %d, want error %d", text, at, n, next, e, want)
	}
}

// checkUntil holds Until, of both values of lines, against a piece.
func checkUntil(t *testing.T, text string, at int, delim byte, piece string, next int) {
	t.Helper()
	for _, lines := range []bool{false, true} {
		if s, to, e := Until(text, at, delim, lines); s != piece || to != next || e != api.OK {
			t.Errorf("Until(%q, %d, %q, %v) = %q, %d, %d, want %q, %d", text, at, delim, lines, s, to, e, piece, next)
		}
	}
}

// checkNoUntil holds Until, of both values of lines, against an error.
func checkNoUntil(t *testing.T, text string, at int, delim byte, want api.Errno) {
	t.Helper()
	for _, lines := range []bool{false, true} {
		if s, next, e := Until(text, at, delim, lines); s != "" || next != 0 || e != want {
			t.Errorf("Until(%q, %d, %q, %v) = %q, %d, %d, want error %d", text, at, delim, lines, s, next, e, want)
		}
	}
}

func checkText(t *testing.T, text string, at int, want string, next int) {
	t.Helper()
	if s, to, e := Text(text, at); s != want || to != next || e != api.OK {
		t.Errorf("Text(%q, %d) = %q, %d, %d, want %q, %d", text, at, s, to, e, want, next)
	}
}

func checkNoText(t *testing.T, text string, at int, want api.Errno) {
	t.Helper()
	if s, next, e := Text(text, at); s != "" || next != 0 || e != want {
		t.Errorf("Text(%q, %d) = %q, %d, %d, want error %d", text, at, s, next, e, want)
	}
}

func checkLine(t *testing.T, text string, at int, want string, next int) {
	t.Helper()
	if s, to := Line(text, at); s != want || to != next {
		t.Errorf("Line(%q, %d) = %q, %d, want %q, %d", text, at, s, to, want, next)
	}
}

func checkWord(t *testing.T, text string, at int, want string, next int) {
	t.Helper()
	if s, to := Word(text, at); s != want || to != next {
		t.Errorf("Word(%q, %d) = %q, %d, want %q, %d", text, at, s, to, want, next)
	}
}

func TestTheChaptersExamples(t *testing.T) {
	checkBlanks(t, " \tx", 0, 2)
	checkNumber(t, "12a", 0, 12, 2)
	checkNoNumber(t, "a", 0, api.ErrNone)
	checkNoNumber(t, "1234567890", 0, api.ErrArg)
	checkUntil(t, `a\/b/c`, 0, '/', "a/b", 5)
	checkUntil(t, `a\.b.`, 0, '.', `a\.b`, 5)
	checkUntil(t, `a\\/`, 0, '/', `a\\`, 4)
	checkNoUntil(t, "a", 0, '/', api.ErrEnd)
	checkText(t, "\\\nab\\\nc\nd", 0, "ab\nc\n", 8)
	checkLine(t, " a b \nc", 0, "a b ", 5)
	checkWord(t, " a b ;c", 0, "a b", 5)
}

// Blanks and Number.

func TestBlanks(t *testing.T) {
	checkBlanks(t, "", 0, 0)
	checkBlanks(t, "x", 0, 0)
	checkBlanks(t, "  ", 0, 2)
	checkBlanks(t, "\t \t", 1, 3)
	checkBlanks(t, "a  b", 0, 0)
	checkBlanks(t, "a  b", 1, 3)
	checkBlanks(t, "a  b", 2, 3)
	checkBlanks(t, "a  b", 3, 3)
	checkBlanks(t, "a  b", 4, 4)
}

func TestWhichBytesAreBlanks(t *testing.T) {
	for number := range 256 {
		want := 1
		if number == 32 || number == 9 {
			want = 3
		}
		checkBlanks(t, " "+string([]byte{byte(number)})+" x", 0, want)
	}
}

func TestNumbers(t *testing.T) {
	checkNumber(t, "0", 0, 0, 1)
	checkNumber(t, "7", 0, 7, 1)
	checkNumber(t, "a120b", 1, 120, 4)
	checkNumber(t, "a120b", 2, 20, 4)
	checkNumber(t, "a120b", 3, 0, 4)
	checkNumber(t, "12 3", 0, 12, 2)
	checkNumber(t, "12,3", 3, 3, 4)
	checkNumber(t, "0001", 0, 1, 4)
	checkNoNumber(t, "", 0, api.ErrNone)
	checkNoNumber(t, " 1", 0, api.ErrNone)
	checkNoNumber(t, "-1", 0, api.ErrNone)
	checkNoNumber(t, "12", 2, api.ErrNone)
}

func TestWhichBytesAreDigits(t *testing.T) {
	for number := range 256 {
		text := string([]byte{byte(number)})
		if digit := strings.Index("0123456789", text); digit >= 0 {
			checkNumber(t, text, 0, digit, 1)
			checkNumber(t, "4"+text+"x", 0, 40+digit, 2)
		} else {
			checkNoNumber(t, text, 0, api.ErrNone)
			checkNumber(t, "4"+text+"5", 0, 4, 1)
		}
	}
}

func TestNineDigitsAndTen(t *testing.T) {
	checkNumber(t, "123456789", 0, 123456789, 9)
	checkNumber(t, "999999999x", 0, 999999999, 9)
	checkNumber(t, "000000000", 0, 0, 9)
	checkNumber(t, "1234567890", 1, 234567890, 10)
	checkNoNumber(t, "0000000000", 0, api.ErrArg)
	checkNoNumber(t, "0000000001", 0, api.ErrArg)
	checkNoNumber(t, "x9999999999x", 1, api.ErrArg)
	checkNoNumber(t, strings.Repeat("9", 5000), 0, api.ErrArg)
}

// Until.

func TestUntil(t *testing.T) {
	checkUntil(t, "/", 0, '/', "", 1)
	checkUntil(t, "a/b/c", 0, '/', "a", 2)
	checkUntil(t, "a/b/c", 1, '/', "", 2)
	checkUntil(t, "a/b/c", 2, '/', "b", 4)
	checkUntil(t, "a b;c#d}/", 0, '/', "a b;c#d}", 9)
	checkUntil(t, `\n\(\{\1\&/`, 0, '/', `\n\(\{\1\&`, 11)
	checkUntil(t, "[/]/", 0, '/', "[", 2)
	checkUntil(t, "\x00\xffé/", 0, '/', "\x00\xffé", 5)
	checkNoUntil(t, "", 0, '/', api.ErrEnd)
	checkNoUntil(t, "a/b/c", 4, '/', api.ErrEnd)
	checkNoUntil(t, "a/b/c", 5, '/', api.ErrEnd)
}

// With every byte as the delimiter: it ends the piece, and behind a backslash it stands for itself.
func TestEachDelimiter(t *testing.T) {
	for number := range 256 {
		delim := byte(number)
		d := string([]byte{delim})
		// Two bytes that are neither a delimiter here nor mean something.
		u, v := "Q", "W"
		if delim == 'Q' || delim == 'W' {
			u, v = "A", "B"
		}
		switch d {
		case "\n", `\`:
			checkNoUntil(t, u+d, 0, delim, api.ErrArg)
			continue
		case ".", "[", "*", "^", "$", "&":
			checkUntil(t, u+`\`+d+v+d+u, 0, delim, u+`\`+d+v, 5)
			checkUntil(t, `\`+d+`\`+d+d, 0, delim, `\`+d+`\`+d, 5)
			checkUntil(t, `\\\`+d+d, 0, delim, `\\\`+d, 5)
		default:
			checkUntil(t, u+`\`+d+v+d+u, 0, delim, u+d+v, 5)
			checkUntil(t, `\`+d+`\`+d+d, 0, delim, d+d, 5)
			checkUntil(t, `\\\`+d+d, 0, delim, `\\`+d, 5)
		}
		checkUntil(t, u+d+v+d, 0, delim, u, 2)
		checkUntil(t, u+d+v+d, 2, delim, v, 4)
		checkUntil(t, u+`\\`+d+v+d, 0, delim, u+`\\`, 4)
		checkUntil(t, u+`\`+v+d, 0, delim, u+`\`+v, 4)
		checkNoUntil(t, u+`\`+d, 0, delim, api.ErrEnd)
		checkNoUntil(t, u+`\\\`+d, 0, delim, api.ErrEnd)
	}
}

// What isn't the delimiter stays as it is, with its backslash and without.
func TestEachByteWithinAPiece(t *testing.T) {
	for number := range 256 {
		b := string([]byte{byte(number)})
		if b == "\n" || b == `\` {
			continue
		}
		for _, delim := range []byte("/.,") {
			if b[0] != delim {
				d := string([]byte{delim})
				checkUntil(t, b+`\`+b+d, 0, delim, b+`\`+b, 4)
			}
		}
	}
}

func TestNewlinesInAPiece(t *testing.T) {
	checkNoUntil(t, "\n/", 0, '/', api.ErrEnd)
	checkNoUntil(t, "a\nb/", 0, '/', api.ErrEnd)
	checkNoUntil(t, "a\\\\\nb/", 0, '/', api.ErrEnd)
	checkNoUntil(t, "a\n", 0, '/', api.ErrEnd)
	checkUntil(t, "a/\n", 0, '/', "a", 2)
	checkUntil(t, "\na/", 1, '/', "a", 3)
	for _, text := range []string{"a\\\nb/", "\\\n/", "\\\\\\\n/", "\\/\\\n/"} {
		if s, next, e := Until(text, 0, '/', false); s != "" || next != 0 || e != api.ErrEnd {
			t.Errorf("Until(%q, .., false) = %q, %d, %d", text, s, next, e)
		}
	}
	for _, c := range []struct {
		text, piece string
		next        int
	}{
		{"a\\\nb/", "a\\\nb", 5},
		{"\\\n/", "\\\n", 3},
		{"\\\\\\\n/", "\\\\\\\n", 5},
		{"\\/\\\n/", "/\\\n", 5},
		{"\\\n\\\n/", "\\\n\\\n", 5},
	} {
		if s, next, e := Until(c.text, 0, '/', true); s != c.piece || next != c.next || e != api.OK {
			t.Errorf("Until(%q, .., true) = %q, %d, %d, want %q, %d", c.text, s, next, e, c.piece, c.next)
		}
	}
	checkNoUntil(t, "\\\n\n/", 0, '/', api.ErrEnd)
	checkNoUntil(t, "\\\n", 0, '/', api.ErrEnd)
}

func TestTheEndAheadOfTheDelimiter(t *testing.T) {
	checkNoUntil(t, "abc", 0, '/', api.ErrEnd)
	checkNoUntil(t, `\`, 0, '/', api.ErrEnd)
	checkNoUntil(t, `abc\`, 0, '/', api.ErrEnd)
	checkNoUntil(t, `abc\\`, 0, '/', api.ErrEnd)
	checkNoUntil(t, `abc\/`, 0, '/', api.ErrEnd)
	checkNoUntil(t, `/\`, 1, '/', api.ErrEnd)
	// A place within a pair: what stands ahead of it isn't looked at.
	checkUntil(t, `\/`, 1, '/', "", 2)
	checkUntil(t, `a\\/b/`, 2, '/', "/b", 6)
}

func TestArgumentsOfUntil(t *testing.T) {
	for _, at := range []int{math.MinInt, -2, -1, 3, 4, math.MaxInt} {
		checkNoUntil(t, "a/", at, '/', api.ErrArg)
		checkNoUntil(t, "a/", at, '\n', api.ErrArg)
	}
	checkNoUntil(t, "", 1, '/', api.ErrArg)
	checkNoUntil(t, "a\n", 0, '\n', api.ErrArg)
	checkNoUntil(t, "a\\", 0, '\\', api.ErrArg)
	// ErrArg stands ahead of ErrEnd.
	checkNoUntil(t, "a", 0, '\n', api.ErrArg)
	checkNoUntil(t, "a", 0, '\\', api.ErrArg)
	checkNoUntil(t, "a", 2, '/', api.ErrArg)
	checkNoUntil(t, "a", 1, '/', api.ErrEnd)
}

// Text.

func TestTexts(t *testing.T) {
	checkText(t, "\\\nab", 0, "ab\n", 4)
	checkText(t, "\\\nab\n", 0, "ab\n", 5)
	checkText(t, "\\\nab\ncd", 0, "ab\n", 5)
	checkText(t, "\\\n\n", 0, "\n", 3)
	checkText(t, "\\\n\nx", 0, "\n", 3)
	checkText(t, "\\\n  ab; }#\n", 0, "  ab; }#\n", 11)
	checkText(t, "\\\na\\\nb\\\n\\\n", 0, "a\nb\n\n\n", 10)
	checkText(t, "\\\n\\\n", 0, "\n\n", 4)
	checkText(t, "\\\na\\\\\nb", 0, "a\\\n", 6)
	checkText(t, "\\\na\\\\\\\nb", 0, "a\\\nb\n", 8)
	checkText(t, "\\\n\\a\\ \\n\\;", 0, "a n;\n", 10)
	checkText(t, "a\\\nx", 1, "x\n", 4)
	checkText(t, "\\\n\x00\xff", 0, "\x00\xff\n", 4)
}

func TestBlanksAheadOfTheBackslash(t *testing.T) {
	checkText(t, " \\\nx", 0, "x\n", 4)
	checkText(t, "\t \t\\\n x", 0, " x\n", 7)
	checkText(t, "a \\\nx", 1, "x\n", 5)
	checkNoText(t, "x\\\nx", 0, api.ErrText)
	checkNoText(t, "\n\\\nx", 0, api.ErrText)
	checkNoText(t, "\\ \nx", 0, api.ErrText)
}

func TestWithoutBackslashAndNewline(t *testing.T) {
	checkNoText(t, "", 0, api.ErrText)
	checkNoText(t, "  ", 0, api.ErrText)
	checkNoText(t, "x", 0, api.ErrText)
	checkNoText(t, "\nx", 0, api.ErrText)
	checkNoText(t, "\\", 0, api.ErrText)
	checkNoText(t, " \\", 0, api.ErrText)
	checkNoText(t, "\\x\n", 0, api.ErrText)
	checkNoText(t, "\\\\\nx", 0, api.ErrText)
	checkNoText(t, "\\\nx", 1, api.ErrText)
}

func TestTextsThatEndTooSoon(t *testing.T) {
	checkNoText(t, "\\\n", 0, api.ErrEnd)
	checkNoText(t, "  \\\n", 0, api.ErrEnd)
	checkNoText(t, "\\\n\\", 0, api.ErrEnd)
	checkNoText(t, "\\\nab\\", 0, api.ErrEnd)
	checkNoText(t, "\\\na\\\n\\", 0, api.ErrEnd)
	checkNoText(t, "\\\na\\\\\\", 0, api.ErrEnd)
	checkText(t, "\\\na\\\\", 0, "a\\\n", 5)
	// Behind the newline that ends the text a backslash at the end is none of the text's.
	checkText(t, "\\\na\n\\", 0, "a\n", 4)
}

// Line and Word.

func TestLines(t *testing.T) {
	checkLine(t, "", 0, "", 0)
	checkLine(t, "ab", 0, "ab", 2)
	checkLine(t, " \tab", 0, "ab", 4)
	checkLine(t, "ab \t", 0, "ab \t", 4)
	checkLine(t, "a;b\nc", 0, "a;b", 3)
	checkLine(t, "a\n;b", 0, "a", 1)
	checkLine(t, "  \nc", 0, "", 2)
	checkLine(t, "\n", 0, "", 0)
	checkLine(t, "\n", 1, "", 1)
	checkLine(t, "   ", 0, "", 3)
	checkLine(t, "a\n b\n", 1, "", 1)
	checkLine(t, "a\n b\n", 2, "b", 4)
	checkLine(t, "a\\\nb", 0, "a\\", 2)
	checkLine(t, " \x00\xff} #\n", 0, "\x00\xff} #", 6)
}

func TestWords(t *testing.T) {
	checkWord(t, "", 0, "", 0)
	checkWord(t, "ab", 0, "ab", 2)
	checkWord(t, " \tab", 0, "ab", 4)
	checkWord(t, "ab \t", 0, "ab", 4)
	checkWord(t, "a;b\nc", 0, "a", 1)
	checkWord(t, "a\n;b", 0, "a", 1)
	checkWord(t, "a \t;", 0, "a", 3)
	checkWord(t, "a \t\n", 0, "a", 3)
	checkWord(t, "a b\tc ;", 0, "a b\tc", 6)
	checkWord(t, "  ;c", 0, "", 2)
	checkWord(t, "  \nc", 0, "", 2)
	checkWord(t, ";", 0, "", 0)
	checkWord(t, ";", 1, "", 1)
	checkWord(t, "   ", 0, "", 3)
	checkWord(t, "a; b\n", 1, "", 1)
	checkWord(t, "a; b\n", 2, "b", 4)
	checkWord(t, "a\\;b", 0, "a\\", 2)
	checkWord(t, "\x00\xff}#;", 0, "\x00\xff}#", 4)
}

// A byte ends a line or a word, or is one of its own, or is a blank at its edges.
func TestEachByteOfALineAndAWord(t *testing.T) {
	for number := range 256 {
		b := string([]byte{byte(number)})
		text := b + "x" + b + "y" + b
		switch b {
		case "\n":
			checkLine(t, text, 0, "", 0)
			checkLine(t, text, 1, "x", 2)
			checkWord(t, text, 1, "x", 2)
		case ";":
			checkLine(t, text, 0, text, 5)
			checkWord(t, text, 0, "", 0)
			checkWord(t, text, 1, "x", 2)
		case " ", "\t":
			checkLine(t, text, 0, "x"+b+"y"+b, 5)
			checkWord(t, text, 0, "x"+b+"y", 5)
		default:
			checkLine(t, text, 0, text, 5)
			checkWord(t, text, 0, text, 5)
		}
	}
}

// Places outside the text.

func TestPlacesOutside(t *testing.T) {
	for _, at := range []int{-1, -2, math.MinInt} {
		checkBlanks(t, " x", at, 1)
		checkNumber(t, "12a", at, 12, 2)
		checkNoNumber(t, "a", at, api.ErrNone)
		checkText(t, "\\\nx\ny", at, "x\n", 4)
		checkLine(t, " a\n", at, "a", 2)
		checkWord(t, " a;", at, "a", 2)
	}
	for _, at := range []int{4, 5, math.MaxInt} {
		checkBlanks(t, " \t ", at, 3)
		checkBlanks(t, "abc", at, 3)
		checkNoNumber(t, "123", at, api.ErrNone)
		checkNoText(t, "\\\nx", at, api.ErrText)
		checkLine(t, "abc", at, "", 3)
		checkWord(t, "abc", at, "", 3)
		checkBlanks(t, "", at, 0)
		checkNoNumber(t, "", at, api.ErrNone)
		checkLine(t, "", at, "", 0)
		checkWord(t, "", at, "", 0)
	}
}

// Name.

func TestNamesOfOneByte(t *testing.T) {
	for number := range 256 {
		b := string([]byte{byte(number)})
		want := number != 0 && number != 10
		for _, name := range []string{b, "a" + b, b + "a", "a" + b + "c", strings.Repeat("\xff", 63) + b} {
			if Name(name) != want {
				t.Errorf("Name(%q) = %v", name, !want)
			}
		}
	}
}

func TestTheLengthsOfNames(t *testing.T) {
	for _, c := range []struct {
		name string
		want bool
	}{
		{"", false},
		{"f", true},
		{strings.Repeat("f", api.MaxName-1), true},
		{strings.Repeat("f", api.MaxName), true},
		{strings.Repeat("f", api.MaxName+1), false},
		{strings.Repeat("é", api.MaxName/2), true},
		{strings.Repeat("é", api.MaxName/2+1), false},
		{strings.Repeat("f", 100000), false},
		{"../a b/\t;c", true},
	} {
		if Name(c.name) != c.want {
			t.Errorf("Name(%q) = %v", c.name, !c.want)
		}
	}
}

// Memory.

// What is answered stays as it is when the bytes that were handed in are written over.
func TestArgumentsAreNotKept(t *testing.T) {
	for _, c := range []struct {
		text string
		read func(text string) string
		want string
	}{
		{"ab/cd", func(text string) string { s, _, _ := Until(text, 0, '/', false); return s }, "ab"},
		{"\\\nab\ncd", func(text string) string { s, _, _ := Text(text, 0); return s }, "ab\n"},
		{"ab\ncd", func(text string) string { s, _ := Line(text, 0); return s }, "ab"},
		{"ab;cd", func(text string) string { s, _ := Word(text, 0); return s }, "ab"},
		{"ab ;cd", func(text string) string { s, _ := Word(text, 0); return s }, "ab"},
	} {
		bytes := []byte(c.text)
		got := c.read(unsafe.String(&bytes[0], len(bytes)))
		if string(bytes) != c.text {
			t.Errorf("of %q is left %q", c.text, bytes)
		}
		clear(bytes)
		if got != c.want {
			t.Errorf("of %q: %q, want %q", c.text, got, c.want)
		}
	}
}

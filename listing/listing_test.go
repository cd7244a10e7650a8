package listing

import (
	"fmt"
	"slices"
	"strings"
	"testing"
	"unsafe"

	"runnel/api"
)

// every answers all 256 bytes, in order.
func every() string {
	var bytes [256]byte
	for b := range 256 {
		bytes[b] = byte(b)
	}
	return string(bytes[:])
}

// many answers a text again and again.
func many(text string, times int) string {
	return strings.Repeat(text, times)
}

// gather answers what a range over All gives.
func gather(text string) []string {
	var list []string
	for line := range All(text) {
		list = append(list, line)
	}
	return list
}

// checkLines holds Lines, All and Read against the lines of a text.
func checkLines(t *testing.T, text string, want ...string) {
	t.Helper()
	if list := Lines(text); !slices.Equal(list, want) {
		t.Errorf("Lines(%q) = %q, want %q", text, list, want)
	}
	if list := gather(text); !slices.Equal(list, want) {
		t.Errorf("All(%q) gives %q, want %q", text, list, want)
	}
	if read, e := Read(want); read != text || e != api.OK {
		t.Errorf("Read(%q) = %q, %d, want %q", want, read, e, text)
	}
}

// checkNoText holds Read against ErrText, with no text beside it.
func checkNoText(t *testing.T, list ...string) {
	t.Helper()
	if text, e := Read(list); text != "" || e != api.ErrText {
		t.Errorf("Read(%q) = %q, %d, want ErrText", list, text, e)
	}
}

func TestTheChaptersExamples(t *testing.T) {
	checkLines(t, "a\tb\\", `a\tb\\$`)
	checkLines(t, "", "$")
	if Escape(200) != `\310` || Escape(0) != `\000` {
		t.Errorf("Escape: %q, %q", Escape(200), Escape(0))
	}
	checkLines(t, many("a", 70), many("a", 69)+`\`, "a$")
	checkLines(t, "a", "a$")
	checkNoText(t, "a")
	checkNoText(t)
	checkNoText(t, `\q$`)
	checkNoText(t, `\011$`)
}

// Escape.

func TestEscapeOfEachByte(t *testing.T) {
	named := map[int]string{'\\': `\\`, 7: `\a`, 8: `\b`, 9: `\t`, 10: `\n`, 11: `\v`, 12: `\f`, 13: `\r`}
	for b := range 256 {
		want, isNamed := named[b]
		switch {
		case isNamed:
		case b < 32 || b > 126:
			want = fmt.Sprintf(`\%03o`, b)
		default:
			want = string([]byte{byte(b)})
		}
		if written := Escape(byte(b)); written != want {
			t.Errorf("Escape(%d) = %q, want %q", b, written, want)
		}
		checkLines(t, string([]byte{byte(b)}), want+"$")
		checkLines(t, "x"+string([]byte{byte(b), byte(b)})+"1", "x"+want+want+"1$")
	}
}

func TestEscapesAtTheBounds(t *testing.T) {
	for b, want := range map[byte]string{6: `\006`, 14: `\016`, 31: `\037`, 32: " ", 126: "~", 127: `\177`, 128: `\200`, 255: `\377`, '$': "$", '"': `"`, '\'': "'", 27: `\033`, 63: "?", 64: "@"} {
		if written := Escape(b); written != want {
			t.Errorf("Escape(%d) = %q, want %q", b, written, want)
		}
	}
}

// All and Lines.

// pieces are bytes whose escapes have one, two and four bytes.
var pieces = []struct{ text, written string }{{"a", "a"}, {"$", "$"}, {"\t", `\t`}, {"\\", `\\`}, {"\n", `\n`}, {"\x00", `\000`}, {"\xff", `\377`}, {"\x0e", `\016`}}

// Each escape that ends at Width - 1 bytes, or some bytes less or more, behind bytes of each width.
func TestEscapesAtALinesEnd(t *testing.T) {
	for _, last := range pieces {
		for _, ahead := range []int{60, 63, 64, 65, 66, 67, 68, 69} {
			fits := ahead+len(last.written) <= 69
			fill := many("x", ahead)
			if fits {
				checkLines(t, fill+last.text, fill+last.written+"$")
				rest := 69 - ahead - len(last.written)
				checkLines(t, fill+last.text+many("y", rest), fill+last.written+many("y", rest)+"$")
				checkLines(t, fill+last.text+many("y", rest+1), fill+last.written+many("y", rest)+`\`, "y$")
				checkLines(t, fill+last.text+many("y", rest)+last.text, fill+last.written+many("y", rest)+`\`, last.written+"$")
				continue
			}
			checkLines(t, fill+last.text, fill+`\`, last.written+"$")
			checkLines(t, fill+last.text+"y", fill+`\`, last.written+"y$")
		}
	}
}

func TestLinesOfEscapesAlone(t *testing.T) {
	checkLines(t, many("a", 68), many("a", 68)+"$")
	checkLines(t, many("a", 69), many("a", 69)+"$")
	checkLines(t, many("a", 138), many("a", 69)+`\`, many("a", 69)+"$")
	checkLines(t, many("a", 139), many("a", 69)+`\`, many("a", 69)+`\`, "a$")
	checkLines(t, many("\t", 34), many(`\t`, 34)+"$")
	checkLines(t, many("\t", 35), many(`\t`, 34)+`\`, `\t$`)
	checkLines(t, "a"+many("\\", 34), "a"+many(`\\`, 34)+"$")
	checkLines(t, "a"+many("\\", 35), "a"+many(`\\`, 34)+`\`, `\\$`)
	checkLines(t, many("\x00", 17), many(`\000`, 17)+"$")
	checkLines(t, many("\x00", 18), many(`\000`, 17)+`\`, `\000$`)
	checkLines(t, "a"+many("\xff", 17), "a"+many(`\377`, 17)+"$")
	checkLines(t, "ab"+many("\xff", 17), "ab"+many(`\377`, 16)+`\`, `\377$`)
	checkLines(t, many("$", 70), many("$", 69)+`\`, "$$")
	checkLines(t, many("a", 67)+"\\$", many("a", 67)+`\\`+`\`, "$$")
	checkLines(t, many("a", 68)+"\\", many("a", 68)+`\`, `\\$`)
	checkLines(t, "a\n\nb\n", `a\n\nb\n$`)
	checkLines(t, "é", `\303\251$`)
}

func TestLongTexts(t *testing.T) {
	for _, piece := range pieces {
		width := 69 / len(piece.written)
		text := many(piece.text, 1000*width+1)
		list := Lines(text)
		if len(list) != 1001 || list[999] != many(piece.written, width)+`\` || list[1000] != piece.written+"$" {
			t.Errorf("Lines of %d %q has %d lines", len(text), piece.text, len(list))
		}
		if read, e := Read(list); read != text || e != api.OK {
			t.Errorf("Read of the lines of %d %q: %d bytes, %d", len(text), piece.text, len(read), e)
		}
	}
}

func TestAllLeftEarlyAndRangedAgain(t *testing.T) {
	text := many("ab\t\\\x00", 200) + "c"
	want := Lines(text)
	all := All(text)
	for leave := 1; leave <= len(want); leave++ {
		given := 0
		for line := range all {
			if line != want[given] {
				t.Fatalf("leaving at %d: the line %d is %q, want %q", leave, given, line, want[given])
			}
			given++
			if given == leave {
				break
			}
		}
		if given != leave {
			t.Errorf("left at %d, but %d lines were given", leave, given)
		}
	}
	for range 2 {
		if list := slices.Collect(all); !slices.Equal(list, want) {
			t.Errorf("ranged over again: %q", list)
		}
	}
	// One range within another.
	for range all {
		inner := 0
		for line := range all {
			if line != want[inner] {
				t.Fatalf("within another range the line %d is %q", inner, line)
			}
			inner++
		}
		if inner != len(want) {
			t.Fatalf("within another range %d lines were given", inner)
		}
	}
}

// A range that is left is not called again, not even for the last line.
func TestAllStopsWhenItIsLeft(t *testing.T) {
	for _, text := range []string{"", "a", many("a", 69), many("a", 70), many("\x00", 1000)} {
		for leave := 1; leave <= len(Lines(text)); leave++ {
			calls := 0
			All(text)(func(string) bool {
				calls++
				return calls < leave
			})
			if calls != leave {
				t.Errorf("left at %d, but called %d times", leave, calls)
			}
		}
	}
}

// Read.

func TestListsThatAreNone(t *testing.T) {
	checkNoText(t, "")
	checkNoText(t, "", "$")
	checkNoText(t, "$", "")
	checkNoText(t, "$", "$")
	checkNoText(t, "a$", "b$")
	checkNoText(t, "a$", "$")
	checkNoText(t, `\`)
	checkNoText(t, `\$`)
	checkNoText(t, `a\`)
	checkNoText(t, `a\`, "b$")
	checkNoText(t, `\`, "$")
	checkNoText(t, `\`, "a$")
	checkNoText(t, "a$b")
	checkNoText(t, "a$ ")
	checkNoText(t, "a$\n")
	checkNoText(t, "a\n$")
	checkNoText(t, "a\t$")
	checkNoText(t, "\x00$")
	checkNoText(t, "\x7f$")
	checkNoText(t, "é$")
	checkLines(t, "$", "$$")
	checkLines(t, "a$", "a$$")
	checkLines(t, "$$", "$$$")
}

func TestEscapesThatAreNone(t *testing.T) {
	// Behind a backslash each byte but those of \\ and \a to \r, and those bytes but not as their numbers.
	for b := range 256 {
		text := string([]byte{byte(b)})
		if !strings.Contains(`\abtnvfr`, text) {
			checkNoText(t, `\`+text+"$")
			checkNoText(t, `x\`+text+"$")
		}
		if !strings.Contains(`\abtnvfr023`, text) {
			checkNoText(t, `\`+text+"00$")
		}
		octal := fmt.Sprintf(`\%03o`, b)
		if Escape(byte(b)) != octal {
			checkNoText(t, octal+"$")
			checkNoText(t, "a"+octal+octal+"$")
		} else {
			checkNoText(t, text+"$")
			checkNoText(t, octal[:3]+"$")
			checkNoText(t, octal[:2]+"$")
		}
	}
	for _, written := range []string{`\400`, `\777`, `\008`, `\080`, `\800`, `\0_0`, `\+00`, `\-00`, `\0x1`, `\ 00`, `\00 `, `\x00`, `\0`, `\00`, `\\\`, `\A`, `\"`, `\'`, `\?`, `\e`, `\$`} {
		checkNoText(t, written+"$")
		checkNoText(t, "ab"+written+"cd$")
		checkNoText(t, written)
	}
	checkLines(t, "\x001", `\0001$`)
	checkLines(t, `\000`, `\\000$`)
	checkLines(t, `\t`, `\\t$`)
}

func TestLinesCutElsewhere(t *testing.T) {
	full := many("a", 69)
	checkNoText(t, full[1:]+`\`, "aa$")
	checkNoText(t, full+`a\`, "$")
	checkNoText(t, full+`\`, "$")
	checkNoText(t, full+`a$`)
	checkNoText(t, full+`\`, full+`a$`)
	checkNoText(t, full+`\`, full+`\`)
	checkNoText(t, full+`\`)
	checkNoText(t, full, "a$")
	checkNoText(t, full+"$", "a$")
	checkNoText(t, full+`\`, "a")
	checkNoText(t, full+`\`, "a$", "$")
	checkNoText(t, full+`\`, "a$", "")
	checkNoText(t, full+`\`, "", "a$")
	checkNoText(t, "", full+`\`, "a$")
	checkNoText(t, `\`, full+`\`, "a$")
	checkNoText(t, "a$", full+`\`)
	checkNoText(t, full+`\`+"a$")
	checkNoText(t, full+`\`+"\n"+"a$")
	checkNoText(t, many("a", 138)+`\`, "a$")
	// An escape is not cut, though there is room for its beginning.
	checkNoText(t, full[1:]+`\`+`\`, `t$`)
	checkNoText(t, full[3:]+`\00`+`\`, `0$`)
	checkNoText(t, full[1:]+`\`, `a$`)
	checkLines(t, full[1:]+"\t", full[1:]+`\`, `\t$`)
	checkLines(t, full[3:]+"\x00", full[3:]+`\`, `\000$`)
	// Ahead of what has room no line ends.
	checkNoText(t, full[2:]+`\`, `\t$`)
	checkNoText(t, full[4:]+`\`, `\000$`)
	checkLines(t, full[2:]+"\t", full[2:]+`\t$`)
	checkLines(t, full[4:]+"\x00", full[4:]+`\000$`)
}

// Memory.

func TestListsStayAsTheyAre(t *testing.T) {
	for _, list := range [][]string{nil, {"$"}, {"a$"}, {many("a", 69) + `\`, "b$"}, {"a", ""}, {`\q$`, "$"}} {
		given := append(slices.Clone(list), "behind$", "", `a\`)[:len(list)]
		want := slices.Clone(given[:len(list)+3])
		text, e := Read(given)
		if !slices.Equal(given[:len(list)+3], want) {
			t.Errorf("%q: handed in as %q", given[:len(list)+3], want)
		}
		// What lies behind the length is not read either.
		if exact, f := Read(slices.Clip(slices.Clone(list))); text != exact || e != f {
			t.Errorf("Read(%q) = %q, %d, but with more behind %q, %d", list, exact, f, text, e)
		}
	}
	// A list's own end may lie behind its length.
	long := []string{many("a", 69) + `\`, "b$"}
	checkNoText(t, long[:1]...)
	checkNoText(t, []string{"a$"}[:0]...)
}

func TestListsAreNew(t *testing.T) {
	for _, text := range []string{"", "a", many("a", 200), many("\x00\t", 500)} {
		list := Lines(text)
		want := slices.Clone(list)
		again := Lines(text)
		list = list[:cap(list)]
		for i := range list {
			list[i] = "spoiled"
		}
		if !slices.Equal(again, want) || !slices.Equal(Lines(text), want) || !slices.Equal(gather(text), want) {
			t.Errorf("%q: lists of two calls share memory", text)
		}
		for _, line := range again[len(again):cap(again)] {
			if line != "" {
				t.Errorf("behind the list is %q", line)
			}
		}
	}
}

// view answers bytes as a text that changes with them.
func view(bytes []byte) string {
	return unsafe.String(&bytes[0], len(bytes))
}

// What is answered does not change with what was handed in, nor what was handed in by a call.
func TestArgumentsAreNotKept(t *testing.T) {
	text, line := []byte(many("a", 70)), []byte("abc$")
	list := Lines(view(text))
	given := gather(view(text))
	read, e := Read([]string{view(line)})
	if string(text) != many("a", 70) || string(line) != "abc$" {
		t.Fatalf("handed in, and now %q, %q", text, line)
	}
	for _, bytes := range [][]byte{text, line} {
		for i := range bytes {
			bytes[i] = '-'
		}
	}
	want := []string{many("a", 69) + `\`, "a$"}
	if !slices.Equal(list, want) || !slices.Equal(given, want) || read != "abc" || e != api.OK {
		t.Errorf("%q, %q, %q, %d", list, given, read, e)
	}
}

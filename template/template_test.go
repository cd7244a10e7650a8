package template

import (
	"slices"
	"strings"
	"testing"
	"unsafe"

	"runnel/api"
)

// plain answers a part of bytes.
func plain(text string) api.Part {
	return api.Part{Group: -1, Text: text}
}

// group answers a group's part.
func group(number int) api.Part {
	return api.Part{Group: number}
}

// span answers a piece.
func span(from, to int) api.Span {
	return api.Span{From: from, To: to}
}

// checkParts holds Parse against parts, without a fault.
func checkParts(t *testing.T, text string, want ...api.Part) {
	t.Helper()
	if parts, fault := Parse(text); !slices.Equal(parts, want) || fault != (api.Fault{}) {
		t.Errorf("Parse(%q) = %v, %v, want %v", text, parts, fault, want)
	}
}

// checkFault holds Parse against a fault, with no parts beside it.
func checkFault(t *testing.T, text string, e api.Errno, at int) {
	t.Helper()
	if parts, fault := Parse(text); len(parts) != 0 || fault != (api.Fault{E: e, At: at}) {
		t.Errorf("Parse(%d bytes: %.40q) = %v, %v, want %d at %d", len(text), text, parts, fault, e, at)
	}
}

// checkText holds Text against a replacement.
func checkText(t *testing.T, want string, parts ...api.Part) {
	t.Helper()
	if text, e := Text(parts); text != want || e != api.OK {
		t.Errorf("Text(%v) = %q, %d, want %q", parts, text, e, want)
	}
}

// checkNoText holds Text against ErrArg.
func checkNoText(t *testing.T, parts ...api.Part) {
	t.Helper()
	if text, e := Text(parts); text != "" || e != api.ErrArg {
		t.Errorf("Text(%v) = %q, %d, want ErrArg", parts, text, e)
	}
}

// checkBuild holds Build against a text.
func checkBuild(t *testing.T, want, subject string, spans []api.Span, parts ...api.Part) {
	t.Helper()
	if text, e := Build(parts, subject, spans); text != want || e != api.OK {
		t.Errorf("Build(%v, %q, %v) = %q, %d, want %q", parts, subject, spans, text, e, want)
	}
}

// checkNoBuild holds Build against an error.
func checkNoBuild(t *testing.T, want api.Errno, subject string, spans []api.Span, parts ...api.Part) {
	t.Helper()
	if text, e := Build(parts, subject, spans); text != "" || e != want {
		t.Errorf("Build(%d parts, %d bytes, %v) = %q, %d, want %d", len(parts), len(subject), spans, text, e, want)
	}
}

func TestTheChaptersExamples(t *testing.T) {
	checkParts(t, `a&\1b\&`, plain("a"), group(0), group(1), plain("b&"))
	checkParts(t, `\n`, plain("\n"))
	checkFault(t, `a\`, api.ErrEnd, 1)
	checkFault(t, "\n", api.ErrText, 0)
	parts, _ := Parse(`\2&`)
	if Refs(parts) != 2 {
		t.Errorf("Refs(%v) = %d", parts, Refs(parts))
	}
	checkBuild(t, "bx", "abc", []api.Span{span(0, 3), span(1, 2)}, group(1), plain("x"))
	checkBuild(t, "", "abc", []api.Span{span(0, 3)}, group(2))
	checkText(t, `a\\b\&`, plain(`a\b&`))
}

// Parse.

func TestEachByteAlone(t *testing.T) {
	for number := range 256 {
		text := string([]byte{byte(number)})
		switch text {
		case "&":
			checkParts(t, text, group(0))
			checkParts(t, "x&y", plain("x"), group(0), plain("y"))
		case "\n":
			checkFault(t, text, api.ErrText, 0)
			checkFault(t, "x\ny", api.ErrText, 1)
		case `\`:
			checkFault(t, text, api.ErrEnd, 0)
			checkFault(t, `x\`, api.ErrEnd, 1)
		default:
			checkParts(t, text, plain(text))
			checkParts(t, "x"+text+"y", plain("x"+text+"y"))
		}
	}
}

func TestEachByteBehindABackslash(t *testing.T) {
	for number := range 256 {
		text := string([]byte{byte(number)})
		digit := strings.Index("0123456789", text)
		switch {
		case digit >= 0:
			checkParts(t, `\`+text, group(digit))
			checkParts(t, `x\`+text+`y`, plain("x"), group(digit), plain("y"))
		case text == "n":
			checkParts(t, `\n`, plain("\n"))
			checkParts(t, `x\ny`, plain("x\ny"))
		default:
			checkParts(t, `\`+text, plain(text))
			checkParts(t, `x\`+text+`y`, plain("x"+text+"y"))
		}
	}
}

func TestBytesThatFollowOneAnother(t *testing.T) {
	checkParts(t, "")
	checkParts(t, "ab", plain("ab"))
	checkParts(t, `a\bc\&\\`+"\\\n"+`\n`, plain("abc&\\\n\n"))
	checkParts(t, `&&`, group(0), group(0))
	checkParts(t, `&\0\1\1`, group(0), group(0), group(1), group(1))
	checkParts(t, `ab&cd\9ef`, plain("ab"), group(0), plain("cd"), group(9), plain("ef"))
	checkParts(t, `\12`, group(1), plain("2"))
	checkParts(t, `1\\1`, plain(`1\1`))
	checkParts(t, `\\\1`, plain(`\`), group(1))
	checkParts(t, `\\&\\\&`, plain(`\`), group(0), plain(`\&`))
	checkParts(t, `n\\n\\\n`, plain("n\\n\\\n"))
	checkParts(t, "é\x00\xff", plain("é\x00\xff"))
}

func TestFaultsAlone(t *testing.T) {
	checkFault(t, "abc\n", api.ErrText, 3)
	checkFault(t, "a&\\1\n\n", api.ErrText, 4)
	checkFault(t, "\\n\nb", api.ErrText, 2)
	// A backslash ahead of a newline that itself stands behind a backslash is none of the newline's.
	checkFault(t, "\\\\\n", api.ErrText, 2)
	checkFault(t, "\\\n\n", api.ErrText, 2)
	checkFault(t, `abc\`, api.ErrEnd, 3)
	checkFault(t, `a\\\`, api.ErrEnd, 3)
	checkFault(t, `&\1\&\`, api.ErrEnd, 5)
	checkParts(t, "\\\\\\\n", plain("\\\n"))
	for _, text := range []string{strings.Repeat("a", 4097), strings.Repeat("&", 4097), strings.Repeat("b", 10000)} {
		checkFault(t, text, api.ErrLong, 0)
	}
}

// Of two faults the one that is met first is the answer, and ErrLong is ahead of both.
func TestTwoFaultsAtATime(t *testing.T) {
	checkFault(t, "ab\nc\\", api.ErrText, 2)
	checkFault(t, "\n\\", api.ErrText, 0)
	checkFault(t, "\\\n\\", api.ErrEnd, 2)
	checkFault(t, "\\\n\n\\", api.ErrText, 2)
	checkFault(t, "\n"+strings.Repeat("a", 4096), api.ErrLong, 0)
	checkFault(t, strings.Repeat("a", 4096)+`\`, api.ErrLong, 0)
	checkFault(t, strings.Repeat("a", 4096)+"\n", api.ErrLong, 0)
	checkFault(t, strings.Repeat("\n", 4096)+`\`, api.ErrLong, 0)
}

func TestMaxScriptBytes(t *testing.T) {
	long := strings.Repeat("a", 4095)
	checkParts(t, long+"b", plain(long+"b"))
	checkParts(t, long[1:]+`\&`, plain(long[1:]+"&"))
	checkParts(t, long[1:]+`\7`, plain(long[1:]), group(7))
	checkParts(t, long+"&", plain(long), group(0))
	checkFault(t, long+"\n", api.ErrText, 4095)
	checkFault(t, long+`\`, api.ErrEnd, 4095)
	checkFault(t, long+`\&`, api.ErrLong, 0)
	checkFault(t, long+"bc", api.ErrLong, 0)
	checkFault(t, strings.Repeat(`\`, 4097), api.ErrLong, 0)
	checkParts(t, strings.Repeat(`\`, 4096), plain(strings.Repeat(`\`, 2048)))
	if parts, fault := Parse(strings.Repeat("&", 4096)); len(parts) != 4096 || fault != (api.Fault{}) {
		t.Errorf("Parse of 4096 & has %d parts, %v", len(parts), fault)
	}
}

// Refs.

func TestRefs(t *testing.T) {
	for _, c := range []struct {
		want  int
		parts []api.Part
	}{
		{0, nil}, {0, []api.Part{}}, {0, []api.Part{plain("9"), plain("")}}, {0, []api.Part{group(0)}}, {0, []api.Part{plain("a"), group(0)}}, {1, []api.Part{group(1)}}, {9, []api.Part{group(9)}},
		{3, []api.Part{group(1), group(3), group(2)}}, {3, []api.Part{group(3), plain("x"), group(0)}}, {5, []api.Part{plain("x"), group(0), group(5)}}, {2, []api.Part{group(2), group(2)}},
		{12, []api.Part{group(12), group(3)}}, {1<<63 - 1, []api.Part{group(1<<63 - 1)}}, {0, []api.Part{group(-2)}}, {0, []api.Part{group(-1 << 63)}}, {4, []api.Part{group(-5), {Group: 4, Text: "7"}}},
	} {
		if n := Refs(c.parts); n != c.want {
			t.Errorf("Refs(%v) = %d, want %d", c.parts, n, c.want)
		}
	}
}

// Text.

func TestTextOfEachGroup(t *testing.T) {
	checkText(t, "")
	checkText(t, "", plain(""))
	checkText(t, "a", plain("a"))
	checkText(t, "&", group(0))
	for number := 1; number <= 9; number++ {
		want := `\` + "0123456789"[number:number+1]
		checkText(t, want, group(number))
		checkText(t, "x"+want+"2"+want+"&", plain("x"), group(number), plain("2"), group(number), group(0))
	}
	// The Text of a group is not looked at.
	for _, text := range []string{"a", `\`, "&", "\n", strings.Repeat("a", 5000)} {
		checkText(t, `&\4\9`, api.Part{Group: 0, Text: text}, api.Part{Group: 4, Text: text}, api.Part{Group: 9, Text: text})
	}
}

func TestTextOfBytes(t *testing.T) {
	for number := range 256 {
		text := string([]byte{byte(number)})
		want := text
		switch text {
		case "\n":
			want = `\n`
		case "&", `\`:
			want = `\` + text
		}
		checkText(t, want, plain(text))
		checkText(t, "x"+want+"y"+want, plain("x"+text+"y"), plain(text))
	}
	checkText(t, `\\n\n\&\\1&`, plain("\\n\n&"), plain(`\1`), group(0))
	checkText(t, `\\`+`\\`+`\&`+`\&`, plain(`\\&`), plain("&"))
	long := strings.Repeat("a\n", 5000)
	checkText(t, strings.Repeat(`a\n`, 5000), plain(long))
}

func TestTextOutsideOfTheBounds(t *testing.T) {
	for _, number := range []int{-2, -3, 10, 11, 256 - 1, 256 + 1, 1<<63 - 1, -1 << 63} {
		checkNoText(t, group(number))
		checkNoText(t, api.Part{Group: number, Text: "a"})
		checkNoText(t, plain("a"), group(1), group(number))
		checkNoText(t, group(number), plain("a"), group(9))
		checkNoText(t, group(number), group(-number))
	}
}

// Build.

func TestBuildOfSpans(t *testing.T) {
	spans := []api.Span{span(1, 5), span(2, 4), span(-1, -1), span(3, 3), span(0, 6), span(6, 6), span(0, 0)}
	for number, want := range []string{"bcde", "cd", "", "", "abcdef", "", "", "", ""} {
		checkBuild(t, want, "abcdef", spans, group(number))
		checkBuild(t, "<"+want+">"+want, "abcdef", spans, plain("<"), group(number), plain(">"), group(number))
		// The Text of a group is not looked at.
		checkBuild(t, want, "abcdef", spans, api.Part{Group: number, Text: "x"})
	}
	checkBuild(t, "", "abcdef", spans)
	checkBuild(t, "", "", nil)
	checkBuild(t, "&\\\n1", "", nil, plain("&\\"), plain("\n"), plain(""), plain("1"))
}

func TestBuildOfSpansThatAreMissing(t *testing.T) {
	for _, number := range []int{0, 1, 2, 9, 10, 1 << 40, 1<<63 - 1} {
		checkBuild(t, "xy", "abc", nil, plain("x"), group(number), plain("y"))
		if number > 0 {
			checkBuild(t, "xy", "abc", []api.Span{span(0, 3)}, plain("x"), group(number), plain("y"))
		}
	}
	// There may be more spans than groups.
	spans := make([]api.Span, 13)
	spans[12] = span(1, 3)
	checkBuild(t, "bc", "abc", spans, group(12))
	checkBuild(t, "", "abc", spans, group(13))
	// What lies behind the spans' length is not there.
	checkBuild(t, "", "abc", spans[:12], group(12))
}

func TestBuildOfSpansThatAreNone(t *testing.T) {
	least, greatest := -1<<63, 1<<63-1
	for _, none := range []api.Span{
		span(-1, -1), span(-1, 0), span(-1, 2), span(-3, 3), span(2, 1), span(1, 0), span(3, 0), span(0, -1), span(0, 4), span(3, 4), span(4, 4), span(4, 3), span(4, 5),
		span(0, greatest), span(greatest, greatest), span(least, least), span(least, 3), span(least, greatest), span(3, least), span(greatest, least),
	} {
		checkBuild(t, "", "abc", []api.Span{none}, group(0))
		checkBuild(t, "xby", "abc", []api.Span{none, span(1, 2)}, plain("x"), group(0), group(1), plain("y"))
	}
	for _, empty := range []api.Span{span(0, 0), span(1, 1), span(3, 3)} {
		checkBuild(t, "", "abc", []api.Span{empty}, group(0))
	}
	checkBuild(t, "", "", []api.Span{span(0, 0)}, group(0))
	checkBuild(t, "", "", []api.Span{span(0, 1)}, group(0))
}

func TestBuildOfMaxSpaceBytes(t *testing.T) {
	most := strings.Repeat("ab", 512)
	half := most[:512]
	spans := []api.Span{span(0, 1024), span(0, 512), span(512, 1024), span(0, 1025)}
	for _, parts := range [][]api.Part{{plain(most)}, {group(0)}, {plain(half), plain(half)}, {group(1), group(2)}, {group(1), plain(half)}, {plain(half), group(2)}, {plain(""), group(0), group(7), plain("")}} {
		checkBuild(t, most, most, spans, parts...)
		checkNoBuild(t, api.ErrSpace, most, spans, append(slices.Clone(parts), plain("a"))...)
		checkNoBuild(t, api.ErrSpace, most, spans, append([]api.Part{plain("a")}, parts...)...)
	}
	checkNoBuild(t, api.ErrSpace, "", nil, plain(most+"a"))
	checkNoBuild(t, api.ErrSpace, "", nil, plain(strings.Repeat("a", 1<<20)))
	checkNoBuild(t, api.ErrSpace, most+"a", spans, group(3))
	checkNoBuild(t, api.ErrSpace, most, spans, group(1), group(2), group(1))
	// The subject may be longer than what is made of it.
	checkBuild(t, "abba", strings.Repeat("ab", 5000)+"ba", []api.Span{span(9998, 10002)}, group(0))
}

func TestBuildOfAGroupBelow(t *testing.T) {
	for _, number := range []int{-2, -3, -1 << 63} {
		checkNoBuild(t, api.ErrArg, "abc", nil, group(number))
		checkNoBuild(t, api.ErrArg, "abc", []api.Span{span(0, 3)}, group(0), plain("a"), api.Part{Group: number, Text: "a"})
		checkNoBuild(t, api.ErrArg, "abc", []api.Span{span(0, 3)}, group(number), plain("a"))
	}
}

// Going through the parts: an error is told at the part where it happens.
func TestTwoErrorsOfBuildAtATime(t *testing.T) {
	most := strings.Repeat("a", 1024)
	spans := []api.Span{span(0, 1024)}
	for _, long := range [][]api.Part{{plain(most + "a")}, {group(0), plain("a")}, {plain(most), group(0)}, {plain("a"), group(0), plain("a")}} {
		checkNoBuild(t, api.ErrSpace, most, spans, append(slices.Clone(long), group(-2))...)
		checkNoBuild(t, api.ErrArg, most, spans, append([]api.Part{group(-2)}, long...)...)
	}
	checkNoBuild(t, api.ErrArg, most, spans, group(0), group(-2), plain("a"))
	checkNoBuild(t, api.ErrArg, most, spans, group(0), group(-2), group(0))
	// The Text of a part that is refused does not come to its length.
	checkNoBuild(t, api.ErrArg, most, spans, group(0), api.Part{Group: -2, Text: "a"})
	checkNoBuild(t, api.ErrArg, most, spans, api.Part{Group: -2, Text: most + "a"})
}

// Memory.

// roomy answers parts with more of them behind their length.
func roomy(parts []api.Part) []api.Part {
	return append(slices.Clone(parts), group(-7), plain("behind"), group(99))[:len(parts)]
}

func TestPartsStayAsTheyAre(t *testing.T) {
	for _, parts := range [][]api.Part{nil, {plain("a")}, {plain("a\n&"), group(1), plain(""), plain(`\`)}, {group(0), {Group: 3, Text: "x"}, group(9)}, {group(-2), plain("a")}} {
		given := roomy(parts)
		want := slices.Clone(given[:len(parts)+3])
		spans := append(make([]api.Span, 0, 4), span(0, 2), span(1, 2), span(-9, -9))[:2]
		refs := Refs(given)
		text, e := Text(given)
		built, f := Build(given, "ab", spans)
		if !slices.Equal(given[:len(parts)+3], want) || !slices.Equal(spans[:4], []api.Span{span(0, 2), span(1, 2), span(-9, -9), span(0, 0)}) {
			t.Errorf("%v: handed in as %v, and the spans are %v", given[:len(parts)+3], want, spans[:4])
		}
		// What lies behind the length is not read either.
		exact := slices.Clip(slices.Clone(parts))
		exactText, exactE := Text(exact)
		exactBuilt, exactF := Build(exact, "ab", []api.Span{span(0, 2), span(1, 2)})
		if refs != Refs(exact) || text != exactText || e != exactE || built != exactBuilt || f != exactF {
			t.Errorf("%v: told otherwise with parts behind", parts)
		}
	}
}

func TestListsAreNew(t *testing.T) {
	for _, text := range []string{"a", `a&b\1c`, `&&&`, `\n\3`} {
		parts, _ := Parse(text)
		want := slices.Clone(parts)
		again, _ := Parse(text)
		parts = parts[:cap(parts)]
		for i := range parts {
			parts[i] = plain("spoiled")
		}
		if !slices.Equal(again, want) {
			t.Errorf("%q: lists of two calls share memory", text)
		}
		if then, _ := Parse(text); !slices.Equal(then, want) {
			t.Errorf("%q: what is done to an answer is seen in the next", text)
		}
	}
	// The room behind a list is new too: there is nothing in it.
	parts, _ := Parse(`a&b\1c`)
	for _, part := range parts[len(parts):cap(parts)] {
		if part != (api.Part{}) {
			t.Errorf("behind the list is %v", part)
		}
	}
}

// view answers bytes as a text that changes with them.
func view(bytes []byte) string {
	return unsafe.String(&bytes[0], len(bytes))
}

// What is answered does not change with what was handed in.
func TestArgumentsAreNotKept(t *testing.T) {
	text, subject, own := []byte(`ab&c\d`), []byte("xyz"), []byte("pq")
	parts, _ := Parse(view(text))
	written, _ := Text([]api.Part{plain(view(own))})
	alone, _ := Build([]api.Part{plain(view(own))}, "", nil)
	piece, _ := Build([]api.Part{group(0)}, view(subject), []api.Span{span(0, 3)})
	if string(text) != `ab&c\d` || string(subject) != "xyz" || string(own) != "pq" {
		t.Fatalf("handed in, and now %q, %q, %q", text, subject, own)
	}
	for _, bytes := range [][]byte{text, subject, own} {
		for i := range bytes {
			bytes[i] = '-'
		}
	}
	if !slices.Equal(parts, []api.Part{plain("ab"), group(0), plain("cd")}) || written != "pq" || alone != "pq" || piece != "xyz" {
		t.Errorf("%v, %q, %q, %q", parts, written, alone, piece)
	}
}

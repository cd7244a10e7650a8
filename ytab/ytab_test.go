package ytab

import (
	"strings"
	"testing"
	"unsafe"

	"runnel/api"
)

const letters = "abcdefghijklmnopqrstuvwxyzABCDEFGHIJKLMNOPQRSTUVWXYZ"

// every answers all 256 bytes, in order.
func every() string {
	var bytes [256]byte
	for b := range 256 {
		bytes[b] = byte(b)
	}
	return string(bytes[:])
}

// reversed answers a text from its end.
func reversed(text string) string {
	var back strings.Builder
	for at := len(text) - 1; at >= 0; at-- {
		back.WriteByte(text[at])
	}
	return back.String()
}

// checkPiece holds Piece against a text, without a fault.
func checkPiece(t *testing.T, text, want string) {
	t.Helper()
	if meant, fault := Piece(text); meant != want || fault != (api.Fault{}) {
		t.Errorf("Piece(%q) = %q, %v, want %q", text, meant, fault, want)
	}
}

// checkFault holds Piece against a fault, with no text beside it.
func checkFault(t *testing.T, text string, e api.Errno, at int) {
	t.Helper()
	if meant, fault := Piece(text); meant != "" || fault != (api.Fault{E: e, At: at}) {
		t.Errorf("Piece(%q) = %q, %v, want %d at %d", text, meant, fault, e, at)
	}
}

// checkTable holds New against P15.2: each byte is looked for in from, and is itself if it isn't there.
func checkTable(t *testing.T, from, to string) [256]byte {
	t.Helper()
	table, e := New(from, to)
	if e != api.OK {
		t.Errorf("New(%q, %q): %d", from, to, e)
	}
	for b := range 256 {
		want := byte(b)
		if at := strings.IndexByte(from, want); at >= 0 {
			want = to[at]
		}
		if table[b] != want {
			t.Errorf("New(%q, %q) turns %d into %d, want %d", from, to, b, table[b], want)
		}
	}
	return table
}

// checkNoTable holds New against ErrMap, with a table of noughts beside it.
func checkNoTable(t *testing.T, from, to string) {
	t.Helper()
	if table, e := New(from, to); table != [256]byte{} || e != api.ErrMap {
		t.Errorf("New(%q, %q) = %v, %d, want ErrMap", from, to, table, e)
	}
}

// checkApply holds Apply against a text.
func checkApply(t *testing.T, table [256]byte, text, want string) {
	t.Helper()
	if turned := Apply(table, text); turned != want {
		t.Errorf("Apply to %q is %q, want %q", text, turned, want)
	}
}

func TestTheChaptersExamples(t *testing.T) {
	checkPiece(t, `a\n\\\/`, "a\n\\/")
	checkFault(t, `\a`, api.ErrEscape, 0)
	checkFault(t, `a\`, api.ErrEnd, 1)
	checkApply(t, checkTable(t, "ab", "ba"), "abc", "bac")
	checkNoTable(t, "a", "")
	checkNoTable(t, "aa", "bc")
}

// Piece.

func TestEachByteAlone(t *testing.T) {
	for number := range 256 {
		text := string([]byte{byte(number)})
		if text == `\` {
			checkFault(t, text, api.ErrEnd, 0)
			checkFault(t, "xy"+text, api.ErrEnd, 2)
			continue
		}
		checkPiece(t, text, text)
		checkPiece(t, "x"+text+text+"n", "x"+text+text+"n")
	}
}

func TestEachByteBehindABackslash(t *testing.T) {
	for number := range 256 {
		text := string([]byte{byte(number)})
		switch {
		case text == "n":
			checkPiece(t, `\n`, "\n")
			checkPiece(t, `x\ny`, "x\ny")
		case strings.Contains(letters+"0123456789", text):
			checkFault(t, `\`+text, api.ErrEscape, 0)
			checkFault(t, `xyz\`+text+`n`, api.ErrEscape, 3)
		default:
			checkPiece(t, `\`+text, text)
			checkPiece(t, `x\`+text+"n", "x"+text+"n")
		}
	}
}

func TestPieceOfSeveralBytes(t *testing.T) {
	checkPiece(t, "", "")
	checkPiece(t, every()[:'\\']+every()['\\'+1:], every()[:'\\']+every()['\\'+1:])
	checkPiece(t, `\n\nn\\n`, "\n\nn\\n")
	checkPiece(t, `\\\\`, `\\`)
	checkPiece(t, `\\\n`, "\\\n")
	checkPiece(t, `\\a\\1`, `\a\1`)
	checkPiece(t, "a\nb\\\nc", "a\nb\nc")
	checkPiece(t, "é\\\xc3\xa9\x00\\\x00", "éé\x00\x00")
	checkPiece(t, strings.Repeat(`ab\n\/`, 10000), strings.Repeat("ab\n/", 10000))
}

func TestEachFaultAlone(t *testing.T) {
	checkFault(t, `\n\\\`, api.ErrEnd, 4)
	checkFault(t, "\n\\\n\\", api.ErrEnd, 3)
	checkFault(t, strings.Repeat(`\\`, 5000)+`\`, api.ErrEnd, 10000)
	checkFault(t, `\n\\\d`, api.ErrEscape, 4)
	checkFault(t, `\\\N`, api.ErrEscape, 2)
	checkFault(t, "a\\\n\\0b", api.ErrEscape, 3)
	checkFault(t, strings.Repeat("x", 5000)+`\z`, api.ErrEscape, 5000)
}

// Of two faults the one that is met first is the answer.
func TestTwoFaultsAtATime(t *testing.T) {
	checkFault(t, `\a\`, api.ErrEscape, 0)
	checkFault(t, `a\9bc\`, api.ErrEscape, 1)
	checkFault(t, `x\a\b`, api.ErrEscape, 1)
	checkFault(t, `\n\1\a`, api.ErrEscape, 2)
	checkFault(t, `\Z\\\`, api.ErrEscape, 0)
}

// New.

func TestTables(t *testing.T) {
	checkTable(t, "", "")
	checkTable(t, "a", "b")
	checkTable(t, "a", "a")
	checkTable(t, "abc", "bca")
	checkTable(t, "abc", "xxx")
	checkTable(t, "abc", "\x00\xff\n")
	checkTable(t, "\x00\xff\n", "abc")
	checkTable(t, "ab", "bb")
	checkTable(t, every(), every())
	checkTable(t, every(), reversed(every()))
	checkTable(t, reversed(every()), every())
	checkTable(t, every(), strings.Repeat("x", 256))
	checkTable(t, every()[:255], every()[1:])
	checkTable(t, every()[1:], every()[:255])
	for b := range 256 {
		checkTable(t, string([]byte{byte(b)}), string([]byte{byte(b * 7)}))
		checkTable(t, every()[:b]+every()[b+1:], strings.Repeat("\x00", 255))
	}
}

// A backslash and the bytes behind it mean nothing here: Piece has read them.
func TestTablesOfBackslashes(t *testing.T) {
	checkTable(t, `\n`, "ab")
	checkTable(t, "ab", `\n`)
	checkNoTable(t, `\n`, "a")
	checkNoTable(t, `\\`, "ab")
}

func TestTextsOfUnlikeLengths(t *testing.T) {
	for _, c := range [][2]string{{"", "a"}, {"a", ""}, {"ab", "c"}, {"a", "bc"}, {every(), every()[1:]}, {every()[1:], every()}, {"", every()}, {every(), ""}, {"é", "e"}, {"abc", strings.Repeat("x", 3+256)}} {
		checkNoTable(t, c[0], c[1])
	}
}

func TestAByteTwice(t *testing.T) {
	for b := range 256 {
		one := string([]byte{byte(b)})
		others := every()[:b] + every()[b+1:]
		checkNoTable(t, one+one, "xy")
		checkNoTable(t, one+one, one+one)
		checkNoTable(t, one+others+one, every()+"x")
		checkNoTable(t, others+one+one, every()+"x")
		checkNoTable(t, one+one+others, every()+"x")
	}
	checkNoTable(t, "abca", "xyzx")
	checkNoTable(t, strings.Repeat("abc", 10000), strings.Repeat("xyz", 10000))
	// Both errors at once are the one error.
	checkNoTable(t, "aa", "b")
	checkNoTable(t, "aa", "bcd")
	// In the other text a byte may stand as often as it likes.
	checkTable(t, "abcd", "xyxy")
}

// Apply.

func TestApplyOfEveryByte(t *testing.T) {
	same := checkTable(t, "", "")
	back := checkTable(t, every(), reversed(every()))
	for _, text := range []string{"", "a", every(), reversed(every()), "é\x00\xff\n", strings.Repeat(every(), 300)} {
		checkApply(t, same, text, text)
		checkApply(t, [256]byte{}, text, strings.Repeat("\x00", len(text)))
		checkApply(t, back, Apply(back, text), text)
	}
	checkApply(t, back, every(), reversed(every()))
	// A byte is turned once: what it has become is not turned again.
	checkApply(t, checkTable(t, "abc", "bca"), "aabbccd", "bbccaad")
}

// view answers bytes as a text that changes with them.
func view(bytes []byte) string {
	return unsafe.String(&bytes[0], len(bytes))
}

// What is answered does not change with what was handed in, nor what was handed in by a call.
func TestArgumentsAreNotKept(t *testing.T) {
	text, from, to := []byte(`ab\n`), []byte("pq"), []byte("qr")
	meant, _ := Piece(view(text))
	table, _ := New(view(from), view(to))
	same, _ := New("", "")
	turned, kept := Apply(table, view(from)), Apply(same, view(text))
	if string(text) != `ab\n` || string(from) != "pq" || string(to) != "qr" {
		t.Fatalf("handed in, and now %q, %q, %q", text, from, to)
	}
	for _, bytes := range [][]byte{text, from, to} {
		for i := range bytes {
			bytes[i] = '-'
		}
	}
	if meant != "ab\n" || turned != "qr" || kept != `ab\n` || Apply(table, "pqr") != "qrr" {
		t.Errorf("%q, %q, %q, %q", meant, turned, kept, Apply(table, "pqr"))
	}
}

func TestTablesStayAsTheyAre(t *testing.T) {
	table := checkTable(t, "abc", "xyz")
	want := table
	for range 2 {
		checkApply(t, table, "aabbcc", "xxyyzz")
		other := checkTable(t, "abc", "uvw")
		other['a'] = '-'
		checkTable(t, "abc", "xyz")
	}
	if table != want {
		t.Errorf("the table has become %v", table)
	}
}

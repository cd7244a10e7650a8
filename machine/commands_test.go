package machine

import (
	"strconv"
	"strings"
	"testing"

	"runnel/api"
)

// over is a script with what it prints, not quiet and quiet, over some lines.
type over struct {
	text, loud, quiet string
}

// checkOver holds what scripts print over lines, with a file f that holds <f> and a newline.
func checkOver(t *testing.T, lines []string, list ...over) {
	t.Helper()
	for _, c := range list {
		for _, quiet := range []bool{false, true} {
			want := c.loud
			if quiet {
				want = c.quiet
			}
			m := ran(t, job{text: c.text, quiet: quiet, files: []api.File{named("f", "<f>\n")}, lines: lines})
			if m.Out() != want || m.Err() != api.OK {
				t.Errorf("%q, quiet %v, over %.100q: %.200q, %d, want %.200q", c.text, quiet, lines, m.Out(), m.Err(), want)
			}
		}
	}
}

// Each command, for the first line, for all but the first, and for none.
func TestEachCommandChosenAndNot(t *testing.T) {
	lines := []string{"ab", "ba"}
	checkOver(t, lines,
		over{"", "ab\nba\n", ""},
		over{"1{p\n}", "ab\nab\nba\n", "ab\n"}, over{"1!{p\n}", "ab\nba\nba\n", "ba\n"}, over{"9{p\n}", "ab\nba\n", ""},
		over{"1b;p", "ab\nba\nba\n", "ba\n"}, over{"1!b;p", "ab\nab\nba\n", "ab\n"}, over{"9b;p", "ab\nab\nba\nba\n", "ab\nba\n"},
		over{"s/a/x/;1t;p", "xb\nbx\nbx\n", "bx\n"}, over{"s/a/x/;1!t;p", "xb\nxb\nbx\n", "xb\n"},
		over{"1=", "1\nab\nba\n", "1\n"}, over{"1!=", "ab\n2\nba\n", "2\n"}, over{"9=", "ab\nba\n", ""},
		over{"1i\\\nt", "t\nab\nba\n", "t\n"}, over{"1!i\\\nt", "ab\nt\nba\n", "t\n"}, over{"9i\\\nt", "ab\nba\n", ""},
		over{"1l", "ab$\nab\nba\n", "ab$\n"}, over{"1!l", "ab\nba$\nba\n", "ba$\n"}, over{"9l", "ab\nba\n", ""},
		over{"1p", "ab\nab\nba\n", "ab\n"}, over{"1!p", "ab\nba\nba\n", "ba\n"}, over{"9p", "ab\nba\n", ""},
		over{"1P", "ab\nab\nba\n", "ab\n"}, over{"1!P", "ab\nba\nba\n", "ba\n"}, over{"9P", "ab\nba\n", ""},
		over{"1a\\\nt", "ab\nt\nba\n", "t\n"}, over{"1!a\\\nt", "ab\nba\nt\n", "t\n"}, over{"9a\\\nt", "ab\nba\n", ""},
		over{"1r f", "ab\n<f>\nba\n", "<f>\n"}, over{"1!r f", "ab\nba\n<f>\n", "<f>\n"}, over{"9r f", "ab\nba\n", ""},
		over{"1c\\\nt", "t\nba\n", "t\n"}, over{"1!c\\\nt", "ab\nt\n", "t\n"}, over{"9c\\\nt", "ab\nba\n", ""},
		over{"1d", "ba\n", ""}, over{"1!d", "ab\n", ""}, over{"9d", "ab\nba\n", ""},
		over{"1D", "ba\n", ""}, over{"1!D", "ab\n", ""}, over{"9D", "ab\nba\n", ""},
		over{"1g", "\nba\n", ""}, over{"1!g", "ab\n\n", ""}, over{"9g", "ab\nba\n", ""},
		over{"1G", "ab\n\nba\n", ""}, over{"1!G", "ab\nba\n\n", ""}, over{"9G", "ab\nba\n", ""},
		over{"1h;G", "ab\nab\nba\nab\n", ""}, over{"1!h;G", "ab\n\nba\nba\n", ""}, over{"9h;G", "ab\n\nba\n\n", ""},
		over{"1H;G", "ab\n\nab\nba\n\nab\n", ""}, over{"1!H;G", "ab\n\nba\n\nba\n", ""}, over{"9H;G", "ab\n\nba\n\n", ""},
		over{"1x", "\nba\n", ""}, over{"1!x", "ab\n\n", ""}, over{"9x", "ab\nba\n", ""}, over{"x", "\nab\n", ""},
		over{"1n", "ab\nba\n", ""}, over{"1!n", "ab\nba\n", ""}, over{"1n;p", "ab\nba\nba\n", "ba\n"}, over{"9n;p", "ab\nab\nba\nba\n", "ab\nba\n"},
		over{"1N;P", "ab\nab\nba\n", "ab\n"}, over{"1!N;P", "ab\nab\n", "ab\n"}, over{"9N;P", "ab\nab\nba\nba\n", "ab\nba\n"},
		over{"1q;p", "ab\n", ""}, over{"1!q;p", "ab\nab\nba\n", "ab\n"}, over{"9q", "ab\nba\n", ""},
		over{"1s/a/x/", "xb\nba\n", ""}, over{"1!s/a/x/", "ab\nbx\n", ""}, over{"9s/a/x/", "ab\nba\n", ""},
		over{"1y/ab/cd/", "cd\nba\n", ""}, over{"1!y/ab/cd/", "ab\ndc\n", ""}, over{"9y/ab/cd/", "ab\nba\n", ""},
		over{"/^a/p", "ab\nab\nba\n", "ab\n"}, over{"/^a/!p", "ab\nba\nba\n", "ba\n"}, over{"$p", "ab\nba\nba\n", "ba\n"}, over{"$!p", "ab\nab\nba\n", "ab\n"},
		over{"1,2p", "ab\nab\nba\nba\n", "ab\nba\n"}, over{"1,2!p", "ab\nba\n", ""},
	)
	for text, want := range map[string]string{"1w g": "ab\n", "1!w g": "ba\n", "9w g": "", "w g": "ab\nba\n", "1s/a/x/w g": "xb\n", "1!s/a/x/w g": "bx\n", "s/^a/x/w g": "xb\n", "9s/a/x/w g": ""} {
		m := ran(t, job{text: text, quiet: true, lines: lines})
		if files := m.Files(); len(files) != 1 || files[0] != named("g", want) || m.Out() != "" || m.Err() != api.OK {
			t.Errorf("%q: %q, %q, %d, want %q", text, files, m.Out(), m.Err(), want)
		}
	}
}

func TestBlocks(t *testing.T) {
	checkOver(t, []string{"a", "b", "c"},
		over{"2{p;p\n}", "a\nb\nb\nb\nc\n", "b\nb\n"},
		over{"2!{p\n}", "a\na\nb\nc\nc\n", "a\nc\n"},
		over{"1,2{2{=;p\n}\n}", "a\n2\nb\nb\nc\n", "2\nb\n"},
		over{"2{3{p\n}\n=\n}\n3=", "a\n2\nb\n3\nc\n", "2\n3\n"},
		// What is looked at within a block that isn't for a line isn't looked at at all.
		over{"9{//p\n}\n", "a\nb\nc\n", ""},
		over{"1,/c/{/a/d\n}", "b\nc\n", ""},
		// A range within a block is asked of the block's lines alone.
		over{"2,3{1,2p\n}", "a\nb\nc\n", ""},
		over{"/[ac]/{1,2p\n}", "a\na\nb\nc\n", "a\n"},
		over{"/[ac]/{1,3p\n}", "a\na\nb\nc\nc\n", "a\nc\n"},
		over{"{}\n{{p\n}}", "a\na\nb\nb\nc\nc\n", "a\nb\nc\n"},
	)
}

func TestJumps(t *testing.T) {
	checkOver(t, []string{"aaa", "b"},
		over{"bx;p\n:x", "aaa\nb\n", ""},
		over{"b;p", "aaa\nb\n", ""},
		over{"bx;p\n:x;=", "1\naaa\n2\nb\n", "1\n2\n"},
		over{":x;s/a/c/;/a/bx", "ccc\nb\n", ""},
		over{":x;s/a/c/;tx", "ccc\nb\n", ""},
		over{"s/a/c/;t;p", "caa\nb\nb\n", "b\n"},
		over{"s/a/c/;tx;p\n:x;=", "1\ncaa\nb\n2\nb\n", "1\nb\n2\n"},
		// t's mark is taken away by the first t that it makes jump.
		over{"s/a/c/;tx;:x;ty;p\n:y", "caa\ncaa\nb\nb\n", "caa\nb\n"},
		// Nothing that s does not exchange takes it away.
		over{"s/a/c/;s/z/y/;t;p", "caa\nb\nb\n", "b\n"},
		// A t that isn't for this line leaves it.
		over{"s/a/c/;2t;t;p", "caa\nb\nb\n", "b\n"},
		// Into a block and out of it.
		over{"bx;9{:x;=\n}", "1\naaa\n2\nb\n", "1\n2\n"},
		over{"{bx;p\n}\np;:x", "aaa\nb\n", ""},
		// To labels that lie at the end, and to the last of some.
		over{":a;:b;bc;:c", "aaa\nb\n", ""},
	)
	checkOver(t, []string{""}, over{"s/^/a/;/a\\{9\\}/q;bx;p\n:x\ns/^/b/;p", "ba\nba\n", "ba\n"}, over{":x;s/^/a/;/a\\{9\\}/q;bx", "aaaaaaaaa\n", ""})
}

// The mark of t is taken away by t, and by a cycle that reads a line, and by nothing else.
func TestTheMarkOfT(t *testing.T) {
	lines := []string{"a", "b", "c"}
	checkOver(t, lines,
		// A new line.
		over{"1s/a/x/;2t;=", "1\nx\n2\nb\n3\nc\n", "1\n2\n3\n"},
		// n and N.
		over{"1{s/a/x/;n\n}\n2t;=", "x\nb\n3\nc\n", "3\n"},
		over{"1{s/a/x/;N\n}\n2t;=", "x\nb\n3\nc\n", "3\n"},
		// d, and then another line.
		over{"1{s/a/x/;d\n}\nt;=", "2\nb\n3\nc\n", "2\n3\n"},
		// D that leaves nothing, and one that leaves something.
		over{"1{s/a/x/;D\n}\nt;=", "2\nb\n3\nc\n", "2\n3\n"},
		// The first two lines, of which D leaves the second with the mark: t then jumps.
		over{"2t;1{N;s/a/x/;D\n}\n=", "b\n3\nc\n", "3\n"},
		over{"2t;1{N;D\n}\n=", "2\nb\n3\nc\n", "2\n3\n"},
		// D that leaves the empty text behind a newline: no line is read, and the mark stays.
		over{"/^$/{t;=\n}\n1{s/$/\\n/;D\n}", "\nb\nc\n", ""},
		over{"/^$/{=;d\n}\n1{G;D\n}", "1\nb\nc\n", "1\n"},
	)
}

func TestPrints(t *testing.T) {
	checkOver(t, []string{"a", "b"},
		over{"N;P", "a\na\nb\n", "a\n"},
		over{"N;p", "a\nb\na\nb\n", "a\nb\n"},
		over{"G;P", "a\na\n\nb\nb\n\n", "a\nb\n"},
		over{"x;G;P;s/^/\\n/;P", "\n\n\n\na\na\n\n\na\nb\n", "\n\na\n\n"},
		over{"N;=", "2\na\nb\n", "2\n"},
		over{"1!=;n;=", "a\n2\nb\n", "2\n"},
		over{"i\\\none\\\ntwo", "one\ntwo\na\none\ntwo\nb\n", "one\ntwo\none\ntwo\n"},
		over{"i\\\n\\\\\\a", "\\a\na\n\\a\nb\n", "\\a\n\\a\n"},
		over{"N;l", "a\\nb$\na\nb\n", "a\\nb$\n"},
		over{"p;p;i\\\nx\n=;d", "a\na\nx\n1\nb\nb\nx\n2\n", "a\na\nx\n1\nb\nb\nx\n2\n"},
	)
	// The count of lines is a number without noughts in front.
	m := ran(t, job{text: "$=", quiet: true, lines: many(1234, "")})
	checkOut(t, m, "1234\n")
}

func TestListings(t *testing.T) {
	every := make([]byte, 0, 256)
	for b := range 256 {
		if b != '\n' {
			every = append(every, byte(b))
		}
	}
	m := ran(t, job{text: "l", quiet: true, lines: []string{string(every)}})
	for i, line := range strings.Split(strings.TrimSuffix(m.Out(), "$\n"), "\n") {
		if len(line) > api.Width {
			t.Errorf("the line %d has %d bytes", i, len(line))
		}
	}
	joined := strings.ReplaceAll(strings.TrimSuffix(m.Out(), "$\n"), "\\\n", "")
	want := `\000\001\002\003\004\005\006\a\b\t\v\f\r\016\017\020`
	if !strings.HasPrefix(joined, want) || !strings.HasSuffix(joined, `\375\376\377`) || !strings.Contains(joined, ` !"#$%&'()*+`) || !strings.Contains(joined, `[\\]`) || !strings.Contains(joined, `~\177\200`) {
		t.Errorf("l prints %q", joined)
	}
	for count, want := range map[int]string{
		0:   "$\n",
		1:   "x$\n",
		69:  ofLength(69) + "$\n",
		70:  ofLength(69) + "\\\nx$\n",
		138: ofLength(69) + "\\\n" + ofLength(69) + "$\n",
		139: ofLength(69) + "\\\n" + ofLength(69) + "\\\nx$\n",
	} {
		checkOut(t, ran(t, job{text: "l", quiet: true, lines: []string{ofLength(count)}}), want)
	}
	checkOut(t, ran(t, job{text: "s/,/\\n/;l", quiet: true, lines: []string{"a\\,\x1b"}}), "a\\\\\\n\\033$\n")
}

func TestTextsAndFiles(t *testing.T) {
	checkOver(t, []string{"a", "b"},
		over{"a\\\none\\\ntwo", "a\none\ntwo\nb\none\ntwo\n", "one\ntwo\none\ntwo\n"},
		over{"a\\\n\n", "a\n\nb\n\n", "\n\n"},
		over{"r f", "a\n<f>\nb\n<f>\n", "<f>\n<f>\n"},
		over{"r none", "a\nb\n", ""},
		over{"r f\nr none\nr f", "a\n<f>\n<f>\nb\n<f>\n<f>\n", "<f>\n<f>\n<f>\n<f>\n"},
		over{"a\\\nx\nr f\na\\\ny", "a\nx\n<f>\ny\nb\nx\n<f>\ny\n", "x\n<f>\ny\nx\n<f>\ny\n"},
		// A file is read when it is put out, not when it is queued.
		over{"r g\nw g", "a\na\nb\na\nb\n", "a\na\nb\n"},
		over{"w g\nr g", "a\na\nb\na\nb\n", "a\na\nb\n"},
		// A file that the script writes was made empty, though nothing is written.
		over{"r f\n9w f", "a\nb\n", ""},
		// What is printed by i and p comes ahead of what is queued.
		over{"a\\\nq\ni\\\nnow\np", "now\na\na\nq\nnow\nb\nb\nq\n", "now\na\nq\nnow\nb\nq\n"},
	)
	// A file without a newline at its end is put out as it is.
	m := ran(t, job{text: "r h\na\\\nx", files: []api.File{named("h", "no newline")}, lines: []string{"a"}})
	checkOut(t, m, "a\nno newlinex\n")
	m = ran(t, job{text: "1w g\nw h\n2s/b/x/w g\ns/a/&/w h", quiet: true, files: []api.File{named("g", "old"), named("i", "stays")}, lines: []string{"a", "b"}})
	check(t, m, told{Space: "x", Line: 2, Ticks: 12, Held: 1}, named("g", "a\nx\n"), named("h", "a\na\nb\n"), named("i", "stays"))
}

func TestChange(t *testing.T) {
	checkOver(t, []string{"a", "b", "c", "d"},
		over{"c\\\nx", "x\nx\nx\nx\n", "x\nx\nx\nx\n"},
		over{"2c\\\nx\\\ny", "a\nx\ny\nc\nd\n", "x\ny\n"},
		over{"$!c\\\nx", "x\nx\nx\nd\n", "x\nx\nx\n"},
		// Of two addresses the text is printed at the range's last line.
		over{"2,3c\\\nx", "a\nx\nd\n", "x\n"},
		over{"/b/,/c/c\\\nx", "a\nx\nd\n", "x\n"},
		over{"2,$c\\\nx", "a\nx\n", "x\n"},
		over{"3,2c\\\nx", "a\nb\nx\nd\n", "x\n"},
		over{"2,2c\\\nx", "a\nx\nc\nd\n", "x\n"},
		// A range that doesn't end prints nothing.
		over{"2,9c\\\nx", "a\n", ""},
		over{"/b/,/z/c\\\nx", "a\n", ""},
		// With Not it is printed for each line that is chosen.
		over{"2,3!c\\\nx", "x\nb\nc\nx\n", "x\nx\n"},
		over{"3,9!c\\\nx", "x\nx\nc\nd\n", "x\nx\n"},
		over{"2!c\\\nx", "x\nb\nx\nx\n", "x\nx\nx\n"},
		// The range's last line is never come to: the text isn't printed.
		over{"3n\n1,3c\\\nx", "c\nd\n", ""},
		// Nothing behind c is done; what was queued ahead is put out.
		over{"a\\\nq\nc\\\nx\np;s/a/b/", "x\nq\nx\nq\nx\nq\nx\nq\n", "x\nq\nx\nq\nx\nq\nx\nq\n"},
	)
	m := loaded(t, "h;c\\\nx", false)
	feed(t, m, "ab", "c")
	checkStep(t, m, 3, api.Spent)
	check(t, m, told{Out: "x\n", Hold: "ab", Line: 1, Ticks: 3, Held: 3})
}

func TestDelete(t *testing.T) {
	checkOver(t, []string{"a,b,c", "d"},
		over{"d", "", ""},
		over{"d;p", "", ""},
		over{"D;p", "", ""},
		over{"s/,/\\n/g;P;D", "a\nb\nc\nd\n", "a\nb\nc\nd\n"},
		over{"s/,/\\n/;=;D", "1\n1\n1\n2\n", "1\n1\n1\n2\n"},
		over{"s/,/\\n/;d;p", "", ""},
		// What was queued is put out, though the cycle ends silently.
		over{"a\\\nq\ns/,/\\n/;D", "q\nq\nq\nq\n", "q\nq\nq\nq\n"},
		over{"a\\\nq\nd", "q\nq\n", "q\nq\n"},
		over{"/,/!q;s/,/\\n/;D", "c\n", ""},
	)
	m := loaded(t, "h;s/,/\\n/;D", false)
	feed(t, m, "ab,cd", "e")
	checkStep(t, m, 4, api.Spent)
	check(t, m, told{Space: "cd", Hold: "ab,cd", Line: 1, Ticks: 4, Held: 8})
	// A newline at the end: S is empty, and the next cycle reads no line all the same.
	m = loaded(t, "=;/a/G;D", true)
	feed(t, m, "a", "b")
	checkStep(t, m, 7, api.Spent)
	check(t, m, told{Out: "1\n1\n", Line: 1, Ticks: 7, Held: 1})
	checkStep(t, m, 99, api.Hungry)
	check(t, m, told{Out: "1\n1\n", Line: 1, Ticks: 10, Held: 1})
	// A cycle that ends silently says nothing of the next.
	checkOver(t, []string{"a", "b", "c"}, over{"1d", "b\nc\n", ""}, over{"1D", "b\nc\n", ""}, over{"1c\\\nx", "x\nb\nc\n", "x\n"})
}

func TestSpaces(t *testing.T) {
	lines := []string{"a", "b", "c"}
	checkOver(t, lines,
		over{"1h;2,3G", "a\nb\na\nc\na\n", ""},
		over{"H;$!d;x", "\na\nb\nc\n", ""},
		over{"H;$!d;g", "\na\nb\nc\n", ""},
		over{"1h;1!H;$!d;x", "a\nb\nc\n", ""},
		over{"x;1d;$G", "a\nb\nc\n", ""},
		over{"G;h;$!d", "c\nb\na\n\n", ""},
		over{"x;x", "a\nb\nc\n", ""},
		over{"h;s/./X/;x", "a\nb\nc\n", ""},
		over{"h;s/./X/;g", "a\nb\nc\n", ""},
	)
	m := loaded(t, "h;G;H;x;g", true)
	feed(t, m, "a", "b")
	for i, want := range []told{
		{Space: "a", Held: 2},
		{Space: "a", Hold: "a", Held: 3},
		{Space: "a\na", Hold: "a", Held: 5},
		{Space: "a\na", Hold: "a\na\na", Held: 9},
		{Space: "a\na\na", Hold: "a\na", Held: 9},
		{Space: "a\na", Hold: "a\na", Held: 7},
		{Space: "a\na", Hold: "a\na", Held: 7},
	} {
		checkStep(t, m, 1, api.Spent)
		want.Line, want.Ticks = 1, i+1
		check(t, m, want)
	}
	checkStep(t, m, 1, api.Hungry)
}

func TestNextLines(t *testing.T) {
	checkOver(t, []string{"a", "b", "c"},
		over{"n", "a\nb\nc\n", ""},
		over{"n;p", "a\nb\nb\nc\n", "b\n"},
		over{"n;n;=", "a\nb\n3\nc\n", "3\n"},
		over{"$!n;=", "a\n2\nb\n3\nc\n", "2\n3\n"},
		// No line comes any more: n prints, N doesn't; nothing behind them is done.
		over{"3n;p", "a\na\nb\nb\nc\n", "a\nb\n"},
		over{"3N;p", "a\na\nb\nb\n", "a\nb\n"},
		over{"N", "a\nb\n", ""},
		over{"N;P;D", "a\nb\n", "a\nb\n"},
		over{"N;N;s/\\n/,/g", "a,b,c\n", ""},
		over{"$!N;s/\\n/,/", "a,b\nc\n", ""},
		// What was queued is put out in any case, then the run has ended.
		over{"$!d;a\\\nq\nn;p", "c\nq\n", "q\n"},
		over{"$!d;a\\\nq\nN;p", "q\n", "q\n"},
		// The ranges are asked of the line that n and N have read.
		over{"n;2p", "a\nb\nb\nc\n", "b\n"},
		over{"N;2p;$!d", "a\nb\n", "a\nb\n"},
	)
	for _, text := range []string{"n", "N"} {
		checkOver(t, nil, over{text, "", ""})
	}
}

func TestQuit(t *testing.T) {
	checkOver(t, []string{"a", "b", "c"},
		over{"q", "a\n", ""},
		over{"2q", "a\nb\n", ""},
		over{"/b/q;p", "a\na\nb\n", "a\n"},
		over{"a\\\nx\nr f\n2q\ni\\\ny", "y\na\nx\n<f>\nb\nx\n<f>\n", "y\nx\n<f>\nx\n<f>\n"},
		over{"9q", "a\nb\nc\n", ""},
		over{"$q", "a\nb\nc\n", ""},
	)
	// q wants no line, and lines that wait stay.
	m := loaded(t, "q", false)
	feed(t, m, "a", "bc")
	checkStep(t, m, 99, api.Done)
	check(t, m, told{Out: "a\n", Space: "a", Line: 1, Ticks: 3, Held: 3})
	// A q that isn't for a line lets the run go on.
	checkErrno(t, "Close", m.Close(), api.ErrState)
}

// The queue is put out in its order: behind S at a cycle's end, at n and at q; at N, with nothing of S printed.
func TestTheQueue(t *testing.T) {
	const queue = "a\\\n1\nr f\na\\\n2\n"
	checkOver(t, []string{"a", "b"},
		over{queue, "a\n1\n<f>\n2\nb\n1\n<f>\n2\n", "1\n<f>\n2\n1\n<f>\n2\n"},
		over{queue + "n;i\\\nx", "a\n1\n<f>\n2\nx\nb\n", "1\n<f>\n2\nx\n"},
		over{queue + "N;i\\\nx", "1\n<f>\n2\nx\na\nb\n", "1\n<f>\n2\nx\n"},
		over{queue + "q", "a\n1\n<f>\n2\n", "1\n<f>\n2\n"},
		over{queue + "d", "1\n<f>\n2\n1\n<f>\n2\n", "1\n<f>\n2\n1\n<f>\n2\n"},
		over{queue + "$!N;P;D", "1\n<f>\n2\na\nb\n1\n<f>\n2\n", "1\n<f>\n2\na\nb\n1\n<f>\n2\n"},
		// It is empty behind n and N: nothing of it is put out twice.
		over{"1a\\\nq\nn;a\\\nr", "a\nq\nb\nr\n", "q\nr\n"},
		over{"1a\\\nq\nN;a\\\nr", "q\na\nb\nr\n", "q\nr\n"},
		// An n or N that isn't for the line leaves it.
		over{"a\\\nq\n9n;9N;i\\\nx", "x\na\nq\nx\nb\nq\n", "x\nq\nx\nq\n"},
	)
}

func TestExchange(t *testing.T) {
	checkOver(t, []string{"banana", "b"},
		over{"s/a/X/", "bXnana\nb\n", ""},
		over{"s/a/X/2", "banXna\nb\n", ""},
		over{"s/a/X/3", "bananX\nb\n", ""},
		over{"s/a/X/4p", "banana\nb\n", ""},
		over{"s/a/X/512p", "banana\nb\n", ""},
		over{"s/a/X/g", "bXnXnX\nb\n", ""},
		over{"s/a/X/2g", "banXnX\nb\n", ""},
		over{"s/a/X/p", "bXnana\nbXnana\nb\n", "bXnana\n"},
		over{"s/a/X/gp", "bXnXnX\nbXnXnX\nb\n", "bXnXnX\n"},
		over{"s/a/a/p", "banana\nbanana\nb\n", "banana\n"},
		over{"s/x*/-/g", "-b-a-n-a-n-a-\n-b-\n", ""},
		over{"s/\\(b\\)\\(a\\)/\\2\\1/", "abnana\nb\n", ""},
		over{"s/b/&\\n&/;P", "b\nb\nbanana\nb\nb\nb\n", "b\nb\n"},
		over{"s/\\(a\\)*b/[\\1]/", "[]anana\n[]\n", ""},
		over{"s/$/!/;s/^/!/", "!banana!\n!b!\n", ""},
		// The empty BRE is the one used last, of an address or of an s, whether it has matched or not.
		over{"/an/s//X/", "bXana\nb\n", ""},
		over{"/an/!s//X/", "banana\nb\n", ""},
		over{"s/n/N/;s//M/", "baNaMa\nb\n", ""},
		over{"/b/s/n/N/;s//M/g", "baNaMa\nb\n", ""},
		over{"/x/p;s//X/", "banana\nb\n", ""},
		over{"/a/,/b/s//X/", "bXnana\nX\n", ""},
		over{"2s/b/X/;/a/d;//p", "X\n", ""},
		over{"1s/n/N/;2s//b/;s/b/X/", "XaNana\nX\n", ""},
		over{"/\\(a\\)n/s//\\1\\1/", "baaana\nb\n", ""},
		// A BRE that was used in one cycle is known in the next.
		over{"1s/b/c/;2s//X/", "canana\nX\n", ""},
		over{"1{/b/=\n}\n2s//X/", "1\nbanana\nX\n", "1\n"},
	)
	m := ran(t, job{text: "s/a/X/gpw g\ns/b/Y/w h\ns/q/Z/w i", quiet: true, files: []api.File{named("i", "old")}, lines: []string{"banana", "b"}})
	check(t, m, told{Out: "bXnXnX\n", Space: "Y", Line: 2, Ticks: 10, Held: 1}, named("g", "bXnXnX\n"), named("h", "YXnXnX\nY\n"), named("i", ""))
	// Back-references, in the BRE and in the replacement.
	m = ran(t, job{text: `s/\(.\)\(.\)\2\1/<\2\1>/g`, lines: []string{"abbaxcddc"}})
	checkOut(t, m, "<ba>x<dc>\n")
}

func TestTurnedBytes(t *testing.T) {
	checkOver(t, []string{"abc", "cab"},
		over{"y/abc/bca/", "bca\nabc\n", ""},
		over{"y///", "abc\ncab\n", ""},
		over{"y,a/,/a,", "/bc\nc/b\n", ""},
		over{"N;y/\\n/+/", "abc+cab\n", ""},
		over{"y/b/\\n/;P;D", "a\nc\nca\n\n", "a\nc\nca\n\n"},
		// It sets no mark.
		over{"y/abc/bca/;t;=", "1\nbca\n2\nabc\n", "1\n2\n"},
	)
	every := make([]byte, 0, 255)
	for b := range 256 {
		if b != '\n' {
			every = append(every, byte(b))
		}
	}
	m := ran(t, job{text: "y/\x00\xff\x80\\\\/\xff\x00a\x01/", lines: []string{string(every)}})
	want := []byte(string(every))
	for i, b := range want {
		switch b {
		case 0:
			want[i] = 255
		case 255:
			want[i] = 0
		case 128:
			want[i] = 'a'
		case '\\':
			want[i] = 1
		}
	}
	checkOut(t, m, string(want)+"\n")
}

// $ is the last line, however the lines come.
func TestTheLastLine(t *testing.T) {
	m := loaded(t, "$=;$!d", true)
	for i := range 3 {
		feed(t, m, strconv.Itoa(i))
		checkStep(t, m, 99, api.Hungry)
	}
	checkOut(t, m, "")
	checkErrno(t, "Close", m.Close(), api.OK)
	checkStep(t, m, 99, api.Done)
	checkOut(t, m, "3\n")
	// Closed ahead of the last line's commands, but behind its beginning: nothing changes.
	m = loaded(t, "$=", true)
	feed(t, m, "a", "b")
	checkStep(t, m, 1, api.Spent)
	checkErrno(t, "Close", m.Close(), api.OK)
	checkStep(t, m, 99, api.Done)
	checkOut(t, m, "2\n")
	// n and N read it, and behind them it is the last one.
	checkOver(t, []string{"a", "b"}, over{"n;$=", "a\n2\nb\n", "2\n"}, over{"N;$=", "2\na\nb\n", "2\n"}, over{"$=;N;$!=", "a\nb\n", ""})
	checkOver(t, []string{"a"}, over{"$p", "a\na\n", "a\n"}, over{"$!p", "a\n", ""}, over{"1,$p", "a\na\n", "a\n"})
	checkOver(t, nil, over{"$p;p;=", "", ""})
}

// Ranges go on from line to line, each command's by itself.
func TestRanges(t *testing.T) {
	checkOver(t, []string{"a", "b", "c", "b", "d"},
		over{"2,4p", "a\nb\nb\nc\nc\nb\nb\nd\n", "b\nc\nb\n"},
		over{"2,4!p", "a\na\nb\nc\nb\nd\nd\n", "a\nd\n"},
		over{"/b/,/c/d", "a\n", ""},
		over{"/b/,/c/!d", "b\nc\nb\nd\n", ""},
		over{"/b/,2d", "a\nc\nd\n", ""},
		over{"4,2d", "a\nb\nc\nd\n", ""},
		over{"/b/,/b/s/$/1/;/c/,/d/s/$/2/", "a\nb1\nc12\nb12\nd2\n", ""},
		over{"2,$d", "a\n", ""},
		over{"$,1d", "a\nb\nc\nb\n", ""},
		// Lines that n takes past a range's end, and into one.
		over{"1{n;n;n\n}\n1,3d", "a\nb\nc\nb\nd\n", ""},
		over{"2,3d;1{n;n\n}", "a\nb\nc\nb\nd\n", ""},
		over{"1!{n;n;n\n}\n2,3d", "a\nb\nc\nb\nd\n", ""},
		// A range that is within, when lines are deleted ahead of its command.
		over{"/c/d;2,3s/$/!/", "a\nb!\nb\nd\n", ""},
	)
}

package machine

import (
	"strings"
	"testing"

	"runnel/api"
)

// tight is a tick behind others for which there is just room enough in all that is written, or one byte too little.
type tight struct {
	rest  string // the commands behind those that fill the output
	ahead int    // how many ticks they make ahead of the one that is looked at
	need  int    // the bytes that this tick writes
	good  told   // what is told behind it, beside what filled the output, if there is room
	bad   told   // likewise, if there is none
	file  string // what the file g holds, if there is room
}

// tightLines are the lines of these tests. The commands are come to with the second one.
var tightLines = []string{"first", "abc,d", "third"}

// check runs the commands behind an output that leaves as much room.
func (c tight) check(t *testing.T, quiet bool, room int, state int, want told, file string) {
	t.Helper()
	fill := api.MaxOut - room
	printed := ""
	if !quiet {
		printed = "first\n"
	}
	big := longest[:fill-len(printed)]
	m := loaded(t, "1{\nr big\nn\n}\n"+c.rest+"\n9w g", quiet, named("big", big))
	feed(t, m, tightLines...)
	checkErrno(t, "Close", m.Close(), api.OK)
	checkStep(t, m, 5+c.ahead, api.Spent)
	checkStep(t, m, 1, state)
	want.Out = printed + big + want.Out
	want.Ticks = 6 + c.ahead
	check(t, m, want, named("big", big), named("g", file))
	if t.Failed() {
		t.Fatalf("of %q, quiet %v, with room for %d bytes", c.rest, quiet, room)
	}
}

// both tries it with room enough and with one byte too little.
func (c tight) both(t *testing.T, quiet bool) {
	t.Helper()
	c.check(t, quiet, c.need, api.Spent, c.good, c.file)
	c.bad.E = api.ErrOut
	c.check(t, quiet, c.need-1, api.Done, c.bad, "")
	// Far too little is no other than a little too little.
	if c.bad.Out == "" {
		c.check(t, quiet, 0, api.Done, c.bad, "")
	}
}

func TestAsMuchOutputAsMayBe(t *testing.T) {
	s := told{Space: "abc,d", Line: 2, Held: 10}
	out := func(w told, text string) told {
		w.Out = text
		return w
	}
	long := ofLength(100)
	listed := ofLength(69) + "\\\n" + ofLength(31) + "$\n"
	for _, c := range []tight{
		{rest: "=", need: 2, good: out(s, "2\n"), bad: s},
		{rest: "i\\\ntext", need: 5, good: out(s, "text\n"), bad: s},
		{rest: "p", need: 6, good: out(s, "abc,d\n"), bad: s},
		{rest: "s/,/\\n/\nP", ahead: 1, need: 4, good: told{Out: "abc\n", Space: "abc\nd", Line: 2, Held: 10}, bad: told{Space: "abc\nd", Line: 2, Held: 10}},
		{rest: "l", need: 7, good: out(s, "abc,d$\n"), bad: s},
		// The lines of l are printed together.
		{rest: "s/.*/" + long + "/\nl", ahead: 1, need: len(listed), good: told{Out: listed, Space: long, Line: 2, Held: 105}, bad: told{Space: long, Line: 2, Held: 105}},
		{rest: "w g", need: 6, good: s, bad: s, file: "abc,d\n"},
		// Of c it is the print that is at fault: S stays.
		{rest: "c\\\ntext", need: 5, good: told{Out: "text\n", Line: 2, Held: 5}, bad: s},
		// Of s the exchange stays, and then what was printed ahead of the write.
		{rest: "s/b/B/p", need: 6, good: told{Out: "aBc,d\n", Space: "aBc,d", Line: 2, Held: 10}, bad: told{Space: "aBc,d", Line: 2, Held: 10}},
		{rest: "s/b/B/w g", need: 6, good: told{Space: "aBc,d", Line: 2, Held: 10}, bad: told{Space: "aBc,d", Line: 2, Held: 10}, file: "aBc,d\n"},
		{rest: "s/b/B/pw g", need: 12, good: told{Out: "aBc,d\n", Space: "aBc,d", Line: 2, Held: 10}, bad: told{Out: "aBc,d\n", Space: "aBc,d", Line: 2, Held: 10}, file: "aBc,d\n"},
	} {
		for _, quiet := range []bool{false, true} {
			c.both(t, quiet)
		}
	}
}

// At n, N and a cycle's end: what is at fault is one print of several, and the queue stays whole.
func TestAsMuchOutputAsMayBeWithTheQueue(t *testing.T) {
	const queue = "a\\\none\nr h\na\\\ntwo\n"
	const queued = 4 + 1 + 4
	for _, c := range []struct {
		tight
		quiet bool
	}{
		// n prints S, then the queue, and then reads.
		{tight{rest: "n", need: 6, good: told{Out: "abc,d\n", Space: "third", Line: 3, Held: 5}, bad: told{Space: "abc,d", Line: 2, Held: 10}}, false},
		{tight{rest: queue + "n", ahead: 3, need: 14, good: told{Out: "abc,d\none\ntwo\n", Space: "third", Line: 3, Held: 5}, bad: told{Out: "abc,d\none\n", Space: "abc,d", Line: 2, Held: 10 + queued}}, false},
		{tight{rest: queue + "n", ahead: 3, need: 8, good: told{Out: "one\ntwo\n", Space: "third", Line: 3, Held: 5}, bad: told{Out: "one\n", Space: "abc,d", Line: 2, Held: 10 + queued}}, true},
		{tight{rest: "a\\\none\nn", ahead: 1, need: 4, good: told{Out: "one\n", Space: "third", Line: 3, Held: 5}, bad: told{Space: "abc,d", Line: 2, Held: 14}}, true},
		// N prints the queue, and then reads.
		{tight{rest: queue + "N", ahead: 3, need: 8, good: told{Out: "one\ntwo\n", Space: "abc,d\nthird", Line: 3, Held: 11}, bad: told{Out: "one\n", Space: "abc,d", Line: 2, Held: 10 + queued}}, false},
		// A cycle's end prints S, then the queue. (Ahead of it, the command with which a script of these tests ends is a tick, too.)
		{tight{rest: "", ahead: 1, need: 6, good: told{Out: "abc,d\n", Space: "abc,d", Line: 2, Held: 10}, bad: told{Space: "abc,d", Line: 2, Held: 10}}, false},
		{tight{rest: queue, ahead: 4, need: 14, good: told{Out: "abc,d\none\ntwo\n", Space: "abc,d", Line: 2, Held: 10}, bad: told{Out: "abc,d\none\n", Space: "abc,d", Line: 2, Held: 10 + queued}}, false},
		{tight{rest: queue, ahead: 4, need: 8, good: told{Out: "one\ntwo\n", Space: "abc,d", Line: 2, Held: 10}, bad: told{Out: "one\n", Space: "abc,d", Line: 2, Held: 10 + queued}}, true},
		{tight{rest: queue + "d", ahead: 4, need: 8, good: told{Out: "one\ntwo\n", Line: 2, Held: 5}, bad: told{Out: "one\n", Line: 2, Held: 5 + queued}}, false},
	} {
		c.both(t, c.quiet)
	}
}

// A file that is put out is printed whole or not at all.
func TestAFileThatIsTooMuch(t *testing.T) {
	for more := range 2 {
		f := named("f", longest[:api.MaxOut/2+more])
		m := ran(t, job{text: "r f", quiet: true, files: []api.File{f}, lines: []string{"1", "2"}})
		if more == 0 {
			check(t, m, told{Out: longest, Space: "2", Line: 2, Ticks: 6, Held: 1}, f)
		} else {
			check(t, m, told{Out: f.Data, Space: "2", Line: 2, Ticks: 6, Held: 2, E: api.ErrOut}, f)
		}
	}
}

// A run that quits with too much to print has ended by the error.
func TestQuitWithTooMuch(t *testing.T) {
	for _, text := range []string{"r f\nr f\nq", "r f\nr f\n$!n\nn"} {
		m := ran(t, job{text: text, quiet: true, files: []api.File{named("f", longest[1:])}, lines: []string{"1"}})
		if m.Err() != api.ErrOut || m.Out() != longest[1:] || m.Held() != 3 {
			t.Errorf("%q: %d, %d bytes, %d held", text, m.Err(), len(m.Out()), m.Held())
		}
	}
}

// All that is written counts, to whichever file.
func TestWrittenTogether(t *testing.T) {
	line := ofLength(api.MaxSpace - 1)
	// Three times 1024 bytes for each line: the file g, the file h, the output.
	lines := many(11, line)
	m := ran(t, job{text: "w g\nw h", lines: lines[:10]})
	checkErrno(t, "Err", m.Err(), api.OK)
	all := strings.Repeat(line+"\n", 10)
	check(t, m, told{Out: all, Space: line, Line: 10, Ticks: 40, Held: len(line)}, named("g", all), named("h", all))
	m = ran(t, job{text: "w g\nw h", lines: lines})
	check(t, m, told{Out: all, Space: line, Line: 11, Ticks: 44, Held: len(line), E: api.ErrOut}, named("g", all+line+"\n"), named("h", all+line+"\n"))
}

// G, H and N up to MaxSpace bytes, and one more: the space stays then.
func TestAsMuchSpaceAsMayBe(t *testing.T) {
	for _, c := range []struct{ first, second int }{{0, 1023}, {1023, 0}, {1, 1022}, {500, 523}, {511, 512}} {
		for more := range 2 {
			first, second := ofLength(c.first), ofLength(c.second+more)
			want, e := api.Spent, api.OK
			if more > 0 {
				want, e = api.Done, api.ErrSpace
			}
			// G lays the first line behind the second.
			m := loaded(t, "1{\nh\nd\n}\nG", true)
			feed(t, m, first, second)
			checkErrno(t, "Close", m.Close(), api.OK)
			checkStep(t, m, 8, api.Spent)
			checkStep(t, m, 1, want)
			space, hold := second+"\n"+first, first
			if more > 0 {
				space = second
			}
			check(t, m, told{Space: space, Hold: hold, Line: 2, Ticks: 9, Held: len(space) + len(hold), E: e})
			// H lays the second behind the first.
			m = loaded(t, "1{\nh\nd\n}\nH", true)
			feed(t, m, first, second)
			checkErrno(t, "Close", m.Close(), api.OK)
			checkStep(t, m, 8, api.Spent)
			checkStep(t, m, 1, want)
			space, hold = second, first+"\n"+second
			if more > 0 {
				hold = first
			}
			check(t, m, told{Space: space, Hold: hold, Line: 2, Ticks: 9, Held: len(space) + len(hold), E: e})
			// N likewise; a line that it finds no room for was read.
			m = loaded(t, "i\\\nnow\na\\\nqueued\nN", true)
			feed(t, m, first, second)
			checkErrno(t, "Close", m.Close(), api.OK)
			checkStep(t, m, 3, api.Spent)
			checkStep(t, m, 1, want)
			space = first + "\n" + second
			if more > 0 {
				space = first
			}
			check(t, m, told{Out: "now\nqueued\n", Space: space, Line: 2, Ticks: 4, Held: len(space), E: e})
		}
	}
}

// Lines of as many bytes as may be are worked on by all that makes nothing longer.
func TestFullSpaces(t *testing.T) {
	full := ofLength(api.MaxSpace)
	m := ran(t, job{text: "h;g;x;y/x/y/;p;s/y/z/;P;w g", quiet: true, lines: []string{full}})
	turned := strings.Repeat("y", api.MaxSpace)
	check(t, m, told{Out: turned + "\nz" + turned[1:] + "\n", Space: "z" + turned[1:], Hold: full, Line: 1, Ticks: 10, Held: 2 * api.MaxSpace}, named("g", "z"+turned[1:]+"\n"))
	for _, text := range []string{"G", "H", "N"} {
		m := ran(t, job{text: text, quiet: true, lines: []string{full, ""}})
		space, hold := m.Spaces()
		if m.Err() != api.ErrSpace || space != full || hold != "" {
			t.Errorf("%q: %d, %d bytes, %d bytes", text, m.Err(), len(space), len(hold))
		}
	}
}

// a and r up to MaxSpace bytes of texts and names together, and one more.
func TestAsMuchQueueAsMayBe(t *testing.T) {
	for _, c := range []struct {
		text string
		want int // the bytes that are queued ahead of the error, or all
		e    api.Errno
	}{
		{"a\\\n" + ofLength(1023), 1024, api.OK},
		{"a\\\n" + ofLength(1024), 0, api.ErrSpace},
		{"a\\\n" + ofLength(1022) + "\nr f", 1024, api.OK},
		{"a\\\n" + ofLength(1022) + "\nr ff", 1023, api.ErrSpace},
		{"a\\\n" + ofLength(1023) + "\nr f", 1024, api.ErrSpace},
		{"a\\\n" + ofLength(1022) + "\na\\\n\n", 1024, api.OK},
		{"a\\\n" + ofLength(1022) + "\na\\\nx", 1023, api.ErrSpace},
		{"a\\\n" + ofLength(1023) + "\na\\\n\n", 1024, api.ErrSpace},
		{strings.Repeat("r "+ofLength(64)+"\n", 16), 1024, api.OK},
		{strings.Repeat("r "+ofLength(64)+"\n", 17), 1024, api.ErrSpace},
		{strings.Repeat("r "+ofLength(64)+"\n", 16) + "r f", 1024, api.ErrSpace},
		{strings.Repeat("r "+ofLength(64)+"\n", 15) + "r " + ofLength(63) + "\nr f", 1024, api.OK},
		// Bytes of the file itself don't count.
		{"r f\nr f", 2, api.OK},
	} {
		files := []api.File{named("f", ofLength(3000))}
		m := loaded(t, c.text, true, files...)
		feed(t, m, "")
		checkErrno(t, "Close", m.Close(), api.OK)
		commands := strings.Count(c.text, "r ") + strings.Count(c.text, "a\\")
		ticks, state := 1+commands, api.Spent
		if c.e != api.OK {
			state = api.Done
		}
		checkStep(t, m, ticks, state)
		check(t, m, told{Line: 1, Ticks: ticks, Held: c.want, E: c.e}, files...)
	}
	// It is empty behind each cycle, n and N: then there is room again.
	full := "a\\\n" + ofLength(1023) + "\n"
	m := ran(t, job{text: full + "n\n" + full + "N\n" + full, quiet: true, lines: []string{"", "", "", "", "", ""}})
	checkOut(t, m, strings.Repeat(ofLength(1023)+"\n", 6))
	// A loop of a fills it.
	m = ran(t, job{text: ":a\na\\\nxyz\nba", quiet: true, lines: []string{"a"}})
	check(t, m, told{Space: "a", Line: 1, Ticks: 1 + 256*3 + 2, Held: 1025, E: api.ErrSpace})
}

// tooMany has more ways than may be at a place at which a20b stands, and matches at a b.
const tooMany = `\(\(a*\)*\)\1b`

var a20b = strings.Repeat("a", 20) + "b"

func TestErrorsOfExchanges(t *testing.T) {
	long := ofLength(600)
	for _, c := range []struct {
		text, line string
		e          api.Errno
		space      string
	}{
		{"s//x/", "ab", api.ErrLast, "ab"},
		{"s//\\1/", "ab", api.ErrLast, "ab"},
		{"/a/s//\\1/", "ab", api.ErrBack, "ab"},
		{"/z/!s//\\1/", "ab", api.ErrBack, "ab"},
		{"s/a/b/;s//\\1/", "ab", api.ErrBack, "bb"},
		{`s/\(a\)/b/;s//\2/`, "ab", api.ErrBack, "bb"},
		{`s/\(a\)/b/;s//\1/`, "aab", api.OK, "bab"},
		{`/\(a\)\(b\)/s//\2\1/`, "ab", api.OK, "ba"},
		{`/\(a\)\(b\)/s//\3/`, "ab", api.ErrBack, "ab"},
		{"s/a/x/;s/" + tooMany + "/x/", "a" + a20b, api.ErrWays, "x" + a20b},
		// An error behind the one that is exchanged isn't met.
		{"s/" + tooMany + "/x/", "b" + a20b, api.OK, "x" + a20b},
		{"s/" + tooMany + "/x/g", "b" + a20b, api.ErrWays, "b" + a20b},
		{"s/" + tooMany + "/x/2", "b" + a20b, api.ErrWays, "b" + a20b},
		// Too much that is put in.
		{"s/.*/&&/", long, api.ErrSpace, long},
		{"s/x/&&/g", long, api.ErrSpace, long},
		{"s/x/&&/512", long, api.OK, "x" + long},
		{"s/x*/&&/", ofLength(512), api.OK, ofLength(1024)},
		{"s/x*/&&/", ofLength(513), api.ErrSpace, ofLength(513)},
		{"s/$/y/", ofLength(1024), api.ErrSpace, ofLength(1024)},
		{"s/$/y/", ofLength(1023), api.OK, ofLength(1023) + "y"},
	} {
		// Nothing is printed or written of what was not exchanged.
		m := ran(t, job{text: c.text + "pw g", quiet: true, lines: []string{c.line}})
		want := ""
		if c.e == api.OK {
			want = c.space + "\n"
		}
		ticks := 1 + strings.Count(c.text, ";") + 1
		if c.e == api.OK {
			ticks++
		}
		check(t, m, told{Out: want, Space: c.space, Line: 1, Ticks: ticks, Held: len(c.space), E: c.e}, named("g", want))
	}
}

func TestErrorsOfAddresses(t *testing.T) {
	for _, c := range []struct {
		text  string
		lines []string
		want  told
	}{
		{"//d", []string{"ab"}, told{Space: "ab", Line: 1, Ticks: 2, Held: 2, E: api.ErrLast}},
		{"p;//!p", []string{"ab"}, told{Out: "ab\n", Space: "ab", Line: 1, Ticks: 3, Held: 2, E: api.ErrLast}},
		{"1,//d", []string{"ab", "c"}, told{Space: "c", Line: 2, Ticks: 5, Held: 1, E: api.ErrLast}},
		{"2{//p\n}", []string{"ab", "c"}, told{Out: "ab\n", Space: "c", Line: 2, Ticks: 7, Held: 1, E: api.ErrLast}},
		{"//{p\n}", []string{"ab", "c"}, told{Space: "ab", Line: 1, Ticks: 2, Held: 3, E: api.ErrLast}},
		{"//n", []string{"ab", "c"}, told{Space: "ab", Line: 1, Ticks: 2, Held: 3, E: api.ErrLast}},
		{"a\\\nq\ni\\\nnow\nh;/" + tooMany + "/d", []string{a20b, "c"}, told{Out: "now\n", Space: a20b, Hold: a20b, Line: 1, Ticks: 5, Held: 45, E: api.ErrWays}},
		{"/" + tooMany + "/!d", []string{a20b}, told{Space: a20b, Line: 1, Ticks: 2, Held: 21, E: api.ErrWays}},
		{"/" + tooMany + "/!d", []string{"b"}, told{Out: "b\n", Space: "b", Line: 1, Ticks: 3, Held: 1}},
		{"w g\n1,/" + tooMany + "/p", []string{"b", a20b}, told{Out: "b\nb\n", Space: a20b, Line: 2, Ticks: 7, Held: 21, E: api.ErrWays}},
	} {
		m := ran(t, job{text: c.text, lines: c.lines})
		if strings.HasPrefix(c.text, "w g") {
			check(t, m, c.want, named("g", "b\n"+a20b+"\n"))
		} else {
			check(t, m, c.want)
		}
	}
}

// An error ends the run at once: nothing behind it is done, no cycle's end either, and what was queued is not put out.
func TestNothingIsDoneBehindAnError(t *testing.T) {
	m := ran(t, job{text: "a\\\nqueued\nr f\nx;h;w g\ns//x/\np;w g\nd", files: []api.File{named("f", "ab")}, lines: []string{"one", "two"}})
	check(t, m, told{Line: 1, Ticks: 7, Held: 7 + 1 + 3, E: api.ErrLast}, named("f", "ab"), named("g", "\n"))
}

// ErrTicks leaves all as it is, wherever the last tick was.
func TestTooManyTicks(t *testing.T) {
	m := ran(t, job{text: "a\\\nq\nh;w g\n:a;ba", lines: []string{"ab", "c"}})
	check(t, m, told{Space: "ab", Hold: "ab", Line: 1, Ticks: api.MaxTicks, Held: 2 + 2 + 2 + 1, E: api.ErrTicks}, named("g", "ab\n"))
	// 137 cycles of 73 ticks each: all but the last one's end.
	m = ran(t, job{text: strings.Repeat("x;", 70) + "a\\\nq", lines: many(137, "ab")})
	check(t, m, told{Out: strings.Repeat("ab\nq\n", 136), Space: "ab", Line: 137, Ticks: api.MaxTicks, Held: 4, E: api.ErrTicks})
	// D's cycles, which read no line.
	m = ran(t, job{text: "G;D", lines: []string{"a"}})
	check(t, m, told{Line: 1, Ticks: api.MaxTicks, E: api.ErrTicks, Space: "", Held: 0})
	m = loaded(t, "G;D", false)
	feed(t, m, "a", "b")
	checkStep(t, m, api.MaxTicks, api.Spent)
	check(t, m, told{Line: 1, Ticks: api.MaxTicks, Space: "", Held: 1})
	checkStep(t, m, 1, api.Done)
	check(t, m, told{Line: 1, Ticks: api.MaxTicks, Space: "", Held: 1, E: api.ErrTicks})
}

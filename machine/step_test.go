package machine

import (
	"math"
	"slices"
	"strings"
	"testing"

	"runnel/api"
)

func TestStepWithoutFuel(t *testing.T) {
	for _, fuel := range []int{0, -1, -api.MaxTicks, math.MinInt} {
		m := loaded(t, "p", false)
		// That the fuel is used up stands ahead of that a line is wanted.
		checkStep(t, m, fuel, api.Spent)
		feed(t, m, "a", "bc")
		checkStep(t, m, fuel, api.Spent)
		check(t, m, told{Held: 3})
		checkErrno(t, "Close", m.Close(), api.OK)
		checkStep(t, m, 6, api.Spent)
		// No line comes any more, but that is found out only with fuel.
		checkStep(t, m, fuel, api.Spent)
		checkErrno(t, "Close", m.Close(), api.ErrState)
		checkStep(t, m, 1, api.Done)
		// That the run has ended stands ahead of that the fuel is used up.
		checkStep(t, m, fuel, api.Done)
		check(t, m, told{Out: "a\na\nbc\nbc\n", Space: "bc", Line: 2, Ticks: 6, Held: 2})
	}
}

func TestStepWithMuchFuel(t *testing.T) {
	for _, fuel := range []int{api.MaxTicks + 1, api.MaxTicks * 3, math.MaxInt} {
		m := loaded(t, "p", false)
		checkStep(t, m, fuel, api.Hungry)
		feed(t, m, "a", "b")
		checkStep(t, m, fuel, api.Hungry)
		check(t, m, told{Out: "a\na\n", Space: "a", Line: 1, Ticks: 3, Held: 2})
		checkErrno(t, "Close", m.Close(), api.OK)
		checkStep(t, m, fuel, api.Done)
		check(t, m, told{Out: "a\na\nb\nb\n", Space: "b", Line: 2, Ticks: 6, Held: 1})
		m = loaded(t, ":a;ba", false)
		feed(t, m, "a", "b")
		checkStep(t, m, fuel, api.Done)
		check(t, m, told{Space: "a", Line: 1, Ticks: api.MaxTicks, Held: 2, E: api.ErrTicks})
	}
}

// A run that ends by a tick of its own answers Done, though the fuel is used up; one that finds no line needs fuel to find that out.
func TestTheEndAheadOfTheFuel(t *testing.T) {
	for text, ticks := range map[string]int{"q": 3, "n": 3, "N": 3, "b\nq": 0, "//d": 2, "s//x/": 2} {
		m := loaded(t, text, false)
		feed(t, m, "a")
		checkErrno(t, "Close", m.Close(), api.OK)
		if ticks == 0 {
			checkStep(t, m, 3, api.Spent)
			checkStep(t, m, 1, api.Done)
			continue
		}
		checkStep(t, m, ticks-1, api.Spent)
		checkStep(t, m, 1, api.Done)
		if m.Ticks() != ticks {
			t.Errorf("%q: %d ticks, want %d", text, m.Ticks(), ticks)
		}
	}
}

func TestTicksAreCounted(t *testing.T) {
	for _, c := range []struct {
		text  string
		lines []string
		want  int
	}{
		{"", nil, 0},
		{"p", nil, 0},
		{"", []string{"a"}, 2},
		{"# no command", []string{"a", "b"}, 4},
		{"p", []string{"a", "b"}, 6},
		// A command that isn't for a line is a tick, too.
		{"2p", []string{"a", "b"}, 6},
		// So are { and } and :, and the } behind a { that isn't for the line.
		{"{p\n}", []string{"a"}, 5},
		{"2{p;p;p\n}", []string{"a"}, 4},
		{":a", []string{"a"}, 3},
		{"bx;p;p\n:x", []string{"a"}, 4},
		{"b;p;p", []string{"a"}, 3},
		{"d;p;p", []string{"a"}, 3},
		{"q;p;p", []string{"a", "b"}, 3},
		// A cycle behind D has its beginning, too.
		{"$!N;P;D", []string{"a", "b", "c"}, 15},
		{"n;n", []string{"a", "b", "c"}, 4},
	} {
		m := ran(t, job{text: c.text, lines: c.lines})
		if m.Ticks() != c.want || m.Err() != api.OK {
			t.Errorf("%q over %q: %d ticks, %d, want %d", c.text, c.lines, m.Ticks(), m.Err(), c.want)
		}
	}
}

// many answers a list of lines.
func many(count int, line string) []string {
	return slices.Repeat([]string{line}, count)
}

// At MaxTicks: that a line is wanted stands ahead, then that no line comes any more, then ErrTicks.
func TestTheOrderAtTheLastTick(t *testing.T) {
	const cycles = api.MaxTicks / 2
	hungry := func() *Machine {
		m := loaded(t, "", true)
		feed(t, m, many(cycles+1, "a")...)
		checkStep(t, m, api.MaxTicks, api.Spent)
		check(t, m, told{Space: "a", Line: cycles, Ticks: api.MaxTicks, Held: 2})
		checkStep(t, m, 0, api.Spent)
		checkStep(t, m, 1, api.Hungry)
		checkErrno(t, "Err", m.Err(), api.OK)
		return m
	}
	m := hungry()
	feed(t, m, "b")
	checkStep(t, m, 1, api.Done)
	check(t, m, told{Space: "a", Line: cycles, Ticks: api.MaxTicks, Held: 3, E: api.ErrTicks})
	m = hungry()
	checkErrno(t, "Close", m.Close(), api.OK)
	checkStep(t, m, 0, api.Spent)
	checkErrno(t, "Err", m.Err(), api.OK)
	checkStep(t, m, 1, api.Done)
	check(t, m, told{Space: "a", Line: cycles, Ticks: api.MaxTicks, Held: 2, E: api.ErrTicks})
	// As many cycles as there are ticks for, and no line more.
	m = ran(t, job{text: "", quiet: true, lines: many(cycles, "a")})
	check(t, m, told{Space: "a", Line: cycles, Ticks: api.MaxTicks, Held: 1})
	m = ran(t, job{text: "", quiet: true, lines: many(cycles+1, "a")})
	check(t, m, told{Space: "a", Line: cycles, Ticks: api.MaxTicks, Held: 2, E: api.ErrTicks})
}

// A run that ends by its last tick has the error of that tick, or none.
func TestAnEndAtTheLastTick(t *testing.T) {
	// 3332 lines of three ticks each; the line behind them takes the four that are left.
	for text, want := range map[string]api.Errno{"3333!b;q": api.OK, "3333!b;n": api.OK, "3333!b;N": api.OK, "3333!b;:a;//d": api.ErrLast, "3333!b;:a;:b;//d": api.ErrTicks} {
		m := loaded(t, text, true)
		feed(t, m, many(3333, "a")...)
		checkErrno(t, "Close", m.Close(), api.OK)
		checkStep(t, m, api.MaxTicks-1, api.Spent)
		checkErrno(t, "Err", m.Err(), api.OK)
		if want != api.ErrTicks {
			checkStep(t, m, 1, api.Done)
		} else {
			checkStep(t, m, 1, api.Spent)
			checkErrno(t, "Err", m.Err(), api.OK)
			checkStep(t, m, 1, api.Done)
		}
		check(t, m, told{Space: "a", Line: 3333, Ticks: api.MaxTicks, Held: 1, E: want})
	}
}

// A command n or N that is next behind MaxTicks ticks wants its line all the same.
func TestHungerAtTheLastTick(t *testing.T) {
	// The beginning and two commands, then rounds of three ticks or four, and the : ahead of n or N.
	for text, read := range map[string]int{"g\ng\n:a\nn\nba": 3333, "g\ng\n:a\nN;s/.*//\nba": 2500} {
		hungry := func() *Machine {
			m := loaded(t, text, true)
			feed(t, m, many(read+1, "")...)
			checkStep(t, m, api.MaxTicks, api.Spent)
			checkStep(t, m, 1, api.Hungry)
			check(t, m, told{Line: read, Ticks: api.MaxTicks})
			return m
		}
		m := hungry()
		feed(t, m, "")
		checkStep(t, m, 1, api.Done)
		check(t, m, told{Line: read, Ticks: api.MaxTicks, E: api.ErrTicks})
		m = hungry()
		checkErrno(t, "Close", m.Close(), api.OK)
		checkStep(t, m, 1, api.Done)
		check(t, m, told{Line: read, Ticks: api.MaxTicks, E: api.ErrTicks})
	}
}

// n and N stop where it isn't known whether a line comes, whether they are for this line or not.
func TestHungerOfCommands(t *testing.T) {
	for _, name := range []string{"n", "N"} {
		for _, chosen := range []bool{true, false} {
			address := ""
			if !chosen {
				address = "9"
			}
			m := loaded(t, "=\n"+address+name+"\n=", true)
			checkStep(t, m, 9, api.Hungry)
			feed(t, m, "ab", "cd")
			// The beginning needs two lines; n and N then need one more.
			checkStep(t, m, 9, api.Hungry)
			check(t, m, told{Out: "1\n", Space: "ab", Line: 1, Ticks: 2, Held: 4})
			checkStep(t, m, 9, api.Hungry)
			checkStep(t, m, 0, api.Spent)
			feed(t, m, "ef")
			checkStep(t, m, 1, api.Spent)
			want := told{Out: "1\n", Space: "ab", Line: 1, Ticks: 3, Held: 6}
			if chosen && name == "n" {
				want = told{Out: "1\n", Space: "cd", Line: 2, Ticks: 3, Held: 4}
			} else if chosen {
				want = told{Out: "1\n", Space: "ab\ncd", Line: 2, Ticks: 3, Held: 7}
			}
			check(t, m, want)
		}
	}
	// Closed, with a line or without one, it is known.
	m := loaded(t, "n", false)
	feed(t, m, "a", "b")
	checkStep(t, m, 9, api.Hungry)
	checkErrno(t, "Close", m.Close(), api.OK)
	checkStep(t, m, 9, api.Done)
	checkOut(t, m, "a\nb\n")
	// Within a block that isn't for the line, they are not come to.
	m = loaded(t, "9{n;N\n}\nbx;n\n:x", false)
	feed(t, m, "a", "b")
	checkStep(t, m, 9, api.Hungry)
	check(t, m, told{Out: "a\n", Space: "a", Line: 1, Ticks: 6, Held: 2})
	// Other commands don't stop, $ or not.
	m = loaded(t, "$p;$!p;s/a/b/;G;x;D", true)
	feed(t, m, "a", "b")
	checkStep(t, m, 8, api.Spent)
}

// A cycle behind a D that has left something reads no line: it doesn't wait for one.
func TestNoHungerBehindD(t *testing.T) {
	m := loaded(t, "1s/,/\\n/;P;D", true)
	feed(t, m, "a,b", "c")
	checkStep(t, m, 5, api.Spent)
	check(t, m, told{Out: "a\n", Space: "b", Line: 1, Ticks: 5, Held: 2})
	checkStep(t, m, 99, api.Hungry)
	check(t, m, told{Out: "a\nb\n", Space: "", Line: 1, Ticks: 10, Held: 1})
	checkErrno(t, "Close", m.Close(), api.OK)
	checkStep(t, m, 99, api.Done)
	checkOut(t, m, "a\nb\nc\n")
	// The last line, too: what is left is worked on, though no line comes any more.
	m = ran(t, job{text: "s/,/\\n/;P;D", quiet: true, lines: []string{"a,b,c"}})
	checkOut(t, m, "a\nb\nc\n")
}

func TestFeedAndClose(t *testing.T) {
	full := ofLength(api.MaxSpace)
	m := loaded(t, "p", true)
	checkErrno(t, "Feed of a newline", m.Feed("a\nb"), api.ErrText)
	checkErrno(t, "Feed of a long line with a newline", m.Feed(full+"\n"), api.ErrText)
	checkErrno(t, "Feed of a long line", m.Feed(full+"x"), api.ErrSpace)
	check(t, m, told{})
	feed(t, m, full, "", "a\x00\xff")
	check(t, m, told{Held: api.MaxSpace + 3})
	checkErrno(t, "Feed of a newline", m.Feed("\n"), api.ErrText)
	checkErrno(t, "Close", m.Close(), api.OK)
	for range 2 {
		checkErrno(t, "Close", m.Close(), api.ErrState)
		for _, line := range []string{"", "a", "a\nb", full + "x"} {
			checkErrno(t, "Feed of a closed machine", m.Feed(line), api.ErrState)
		}
	}
	check(t, m, told{Held: api.MaxSpace + 3})
	checkStep(t, m, 99, api.Done)
	checkOut(t, m, full+"\n\na\x00\xff\n")
}

// A run that has ended takes nothing any more, however it has ended, closed or not.
func TestFeedAndCloseBehindTheEnd(t *testing.T) {
	for _, text := range []string{"q", "//d", ":a;ba", "G;G;s/.*/&/2;s//\\1/", "1!N"} {
		for _, closed := range []bool{false, true} {
			m := loaded(t, text, false)
			feed(t, m, "a", "b")
			if text == "1!N" {
				checkErrno(t, "Close", m.Close(), api.OK)
			} else if closed {
				checkErrno(t, "Close", m.Close(), api.OK)
			}
			checkStep(t, m, api.MaxTicks+1, api.Done)
			before, files := now(m), m.Files()
			for _, line := range []string{"", "a", "a\nb", ofLength(api.MaxSpace + 1)} {
				checkErrno(t, "Feed behind the end", m.Feed(line), api.ErrState)
			}
			checkErrno(t, "Close behind the end", m.Close(), api.ErrState)
			for _, fuel := range []int{-1, 0, 1, api.MaxTicks} {
				checkStep(t, m, fuel, api.Done)
			}
			check(t, m, before, files...)
		}
	}
}

func TestHeld(t *testing.T) {
	m := loaded(t, "a\\\ntext\nr file\nh\nG\nn\nx\nd", true)
	held := func(want int) {
		t.Helper()
		if m.Held() != want {
			t.Errorf("Held = %d behind %d ticks, want %d", m.Held(), m.Ticks(), want)
		}
	}
	held(0)
	feed(t, m, "ab")
	held(2)
	feed(t, m, "cde", "f")
	held(6)
	// The beginning, a, r, h, G, n, x, d, the end.
	for _, want := range []int{6, 6 + 5, 6 + 5 + 4, 15 + 2, 17 + 3, 9 - 3, 6, 4, 4} {
		checkStep(t, m, 1, api.Spent)
		held(want)
	}
	checkErrno(t, "Close", m.Close(), api.OK)
	held(4)
	checkErrno(t, "Feed", m.Feed("a"), api.ErrState)
	held(4)
	for _, want := range []int{4, 9, 13, 11, 13, 13, 4} {
		m.Step(1)
		held(want)
	}
	checkStep(t, m, 1, api.Done)
	held(4)
}

// scripts are some that use all commands, with files.
func scripts() []job {
	lines := []string{"one", "two words", "", "three\tand \\ more", "aab", strings.Repeat("long ", 20), "end"}
	files := []api.File{named("f", "from f\n"), named("h", "no newline")}
	var list []job
	for _, text := range []string{
		"",
		"p",
		"$!N;P;D",
		"1!G;h;$!d",
		"n;d",
		"N;N;s/\\n/+/g",
		":a;$!{N;ba\n}\ns/\\n/,/g",
		"/t/,/^$/{=;l\nr f\n}",
		"a\\\nbehind\ni\\\nahead\n3c\\\nthree\n4,6c\\\nsome\n",
		"w g\n/o/s//0/gpw k\nt\ny/abc/ABC/\nr g",
		"H;x;s/^\\n//;x;$!d;g;q",
		"s/a\\{0,1\\}/<&>/2g;ta\ns/$/!/;:a",
		"/aab/q;r h\nn;a\\\nqueued",
		":a;s/^\\(x*\\)[^x]/\\1x/;ta\nl",
		"5!s/e/E\\n/;P;D",
		"4{//d\n}\ns/o/0/",
		"$!d;:a;G;h;ba",
		"s/[^,]/,&/;:a;p;ba",
		"2!d;:a;ba",
		"$s/.*/\\(/;$s//\\1/;b;p",
		"#n\n1,3p;$=",
	} {
		for _, quiet := range []bool{false, true} {
			list = append(list, job{text: text, quiet: quiet, files: files, lines: lines})
		}
	}
	return list
}

// states answers what a machine tells behind each tick, its lines fed ahead.
func states(t *testing.T, j job) []told {
	t.Helper()
	m := loaded(t, j.text, j.quiet, j.files...)
	feed(t, m, j.lines...)
	checkErrno(t, "Close", m.Close(), api.OK)
	list := []told{now(m)}
	for m.Step(1) == api.Spent {
		list = append(list, now(m))
		if list[len(list)-1].Ticks != len(list)-1 {
			t.Fatalf("%q: behind %d calls %d ticks", j.text, len(list)-1, m.Ticks())
		}
	}
	if m.Ticks() == len(list) {
		list = append(list, now(m))
	}
	return list
}

// However the fuel is cut, the machine tells the same behind as many ticks.
func TestFuelCutInEveryWay(t *testing.T) {
	for _, j := range scripts() {
		want := states(t, j)
		end := ran(t, j)
		for _, fuel := range []int{1, 2, 3, 5, 7, 11, 100, len(want) - 2, len(want) - 1, len(want), api.MaxTicks} {
			if fuel < 1 {
				continue
			}
			m := loaded(t, j.text, j.quiet, j.files...)
			feed(t, m, j.lines...)
			checkErrno(t, "Close", m.Close(), api.OK)
			for m.Step(fuel) == api.Spent {
				if got := now(m); got != want[m.Ticks()] {
					t.Fatalf("%q with fuel of %d:\n%v, want\n%v", j.text, fuel, got, want[m.Ticks()])
				}
			}
			check(t, m, now(end), end.Files()...)
		}
	}
}

// Whenever the lines are fed, the machine tells the same behind as many ticks, but for the lines that wait.
func TestLinesFedWhenTheyAreWanted(t *testing.T) {
	for _, j := range scripts() {
		want := states(t, j)
		end := ran(t, j)
		for _, ahead := range []int{0, 1, 2, 4, len(j.lines)} {
			m := loaded(t, j.text, j.quiet, j.files...)
			feed(t, m, j.lines[:ahead]...)
			given, closed, state := ahead, false, api.Spent
			for state != api.Done {
				state = m.Step(3)
				if state == api.Hungry {
					if waits := given - m.Line(); waits > 1 {
						t.Fatalf("%q: hungry, and %d lines wait", j.text, waits)
					}
					if given < len(j.lines) {
						feed(t, m, j.lines[given])
						given++
					} else {
						checkErrno(t, "Close", m.Close(), api.OK)
						closed = true
					}
				}
				got, wanted := now(m), want[m.Ticks()]
				wanted.Held -= len(strings.Join(j.lines[given:], ""))
				if state == api.Done {
					wanted.E = end.Err()
				}
				if got != wanted {
					t.Fatalf("%q, %d lines fed ahead:\n%v, want\n%v", j.text, ahead, got, wanted)
				}
			}
			if m.Out() != end.Out() || !slices.Equal(m.Files(), end.Files()) || closed && m.Held() != end.Held() {
				t.Errorf("%q, %d lines fed ahead: another end", j.text, ahead)
			}
		}
	}
}

// Out of fewer ticks is a beginning of Out of more.
func TestOutGrows(t *testing.T) {
	for _, j := range scripts() {
		before := ""
		for _, w := range states(t, j) {
			if !strings.HasPrefix(w.Out, before) {
				t.Fatalf("%q: behind %d ticks Out is %.100q, and was %.100q", j.text, w.Ticks, w.Out, before)
			}
			before = w.Out
		}
	}
}

// Every run of a closed machine ends.
func TestAClosedMachineEnds(t *testing.T) {
	for _, j := range scripts() {
		for count := range len(j.lines) {
			j := j
			j.lines = j.lines[:count]
			m := ran(t, j)
			written := len(m.Out())
			for _, f := range m.Files() {
				if f.Name == "g" || f.Name == "k" {
					written += len(f.Data)
				}
			}
			if m.Ticks() > api.MaxTicks || written > api.MaxOut {
				t.Errorf("%q: %d ticks, %d bytes", j.text, m.Ticks(), written)
			}
		}
	}
}

package machine

import (
	"fmt"
	"math/rand"
	"regexp"
	"slices"
	"strings"
	"testing"

	"runnel/api"
	"runnel/emit"
)

// A second machine: all lines are known to it from the beginning, it runs to its end at once, and writes down what there is behind each tick; what a call answers is then looked up.

// slowMoment is what there is behind as many ticks. Files and the output only grow, so that their lengths say what they were.
type slowMoment struct {
	out, read, queued int
	files             []int
	s, h              string
	needs, begins     bool // of the next tick: must it be known whether a line comes; does it read one at a cycle's beginning?
	ended             bool
	e                 api.Errno
}

type slowRun struct {
	ops     []api.Op
	quiet   bool
	lines   []string
	names   []string
	data    map[string]string
	out     string
	written int
	s, h    string
	read    int
	mark    bool
	queue   []string // each with a byte ahead that says what it is
	on      map[int]bool
	last    string
	moments []slowMoment
}

// slowStop ends a slow run.
type slowStop struct{}

// slowBREs are the BREs of these tests, as Go's own package writes them.
var slowBREs = map[string]string{
	"a": `a`, "b": `b`, "c": `c`, "^": `^`, "$": `$`, "^$": `^$`, "a*": `a*`, "x*": `x*`, ".": `(?s:.)`, ".*": `(?s:.*)`, `\n`: `\n`,
	`\(a\)\(b*\)`: `(a)(b*)`, `\(.\)$`: `((?s:.))$`, "[ab]": `[ab]`, "[^a]": `[^a]`, "^[^a]*\\n": `^[^a]*\n`,
}

// slowRead answers the BREs, read.
func slowRead() map[string]*regexp.Regexp {
	read := map[string]*regexp.Regexp{}
	for bre, text := range slowBREs {
		read[bre] = regexp.MustCompile(text)
		read[bre].Longest()
	}
	return read
}

var slowFound = slowRead()

// newSlow runs a job to its end.
func newSlow(j job) (*slowRun, api.Fault) {
	program, fault := emit.Build(j.text)
	if fault.E != api.OK {
		return nil, fault
	}
	r := &slowRun{ops: program.Ops, quiet: j.quiet || program.Quiet, lines: j.lines, data: map[string]string{}, on: map[int]bool{}, last: "none"}
	for _, f := range j.files {
		r.data[f.Name] = f.Data
	}
	for _, name := range program.Files {
		r.data[name] = ""
	}
	for name := range r.data {
		r.names = append(r.names, name)
	}
	slices.Sort(r.names)
	r.all()
	return r, fault
}

// note writes down what there is now.
func (r *slowRun) note(m slowMoment) {
	m.out, m.read, m.s, m.h = len(r.out), r.read, r.s, r.h
	for _, q := range r.queue {
		m.queued += len(q) - 1
	}
	for _, name := range r.names {
		m.files = append(m.files, len(r.data[name]))
	}
	r.moments = append(r.moments, m)
}

// tick notes what there is ahead of a tick, and stops if there is none any more.
func (r *slowRun) tick(needs, begins bool) {
	r.note(slowMoment{needs: needs, begins: begins})
	if begins && r.read == len(r.lines) || len(r.moments) == 10001 {
		panic(slowStop{})
	}
}

// fail ends the run within a tick.
func (r *slowRun) fail(e api.Errno) {
	r.note(slowMoment{ended: true, e: e})
	panic(slowStop{})
}

// put prints, or writes a file.
func (r *slowRun) put(file, text string) {
	if r.written+len(text) > 32768 {
		r.fail(api.ErrOut)
	}
	r.written += len(text)
	if file == "" {
		r.out += text
	} else {
		r.data[file] += text
	}
}

func (r *slowRun) flush() {
	for _, q := range r.queue {
		if q[0] == 'r' {
			r.put("", r.data[q[1:]])
		} else {
			r.put("", q[1:])
		}
	}
	r.queue = nil
}

// longer answers a space with more behind it.
func (r *slowRun) longer(space, more string) string {
	if len(space)+len(more) > 1023 {
		r.fail(api.ErrSpace)
	}
	return space + "\n" + more
}

func (r *slowRun) all() {
	defer func() {
		if _, ok := recover().(slowStop); !ok {
			panic("a slow run has no end")
		}
	}()
	again := false
	for {
		r.tick(!again, !again)
		if !again {
			r.s, r.mark = r.lines[r.read], false
			r.read++
		}
		how := r.commands()
		r.tick(false, false)
		if !r.quiet && !strings.Contains(how, "silent") {
			r.put("", r.s+"\n")
		}
		r.flush()
		if strings.Contains(how, "quit") {
			r.fail(api.OK)
		}
		again = strings.Contains(how, "again")
	}
}

// commands goes through the commands of a cycle, and answers how it ends.
func (r *slowRun) commands() string {
	for at := 0; at < len(r.ops); {
		op := r.ops[at]
		c := op.Command
		r.tick(strings.IndexByte("nN", c.Name) >= 0, false)
		in, off := r.chosen(at)
		at++
		if !in {
			if c.Name == '{' {
				at = op.Jump
			}
			continue
		}
		switch c.Name {
		case 'b':
			at = op.Jump
		case 't':
			if r.mark {
				r.mark, at = false, op.Jump
			}
		case 'c':
			if c.B == (api.Address{}) || c.Not || off {
				r.put("", c.Text)
			}
			r.s = ""
			return "silent"
		case 'd':
			r.s = ""
			return "silent"
		case 'D':
			if lines := strings.SplitN(r.s, "\n", 2); len(lines) == 2 {
				r.s = lines[1]
				return "silent again"
			}
			r.s = ""
			return "silent"
		case 'q':
			return "quit"
		case 'n', 'N':
			if r.read == len(r.lines) {
				return map[byte]string{'n': "quit", 'N': "silent quit"}[c.Name]
			}
			r.take(c.Name)
		default:
			r.plain(c)
		}
	}
	return ""
}

// take does n and N, where a line comes.
func (r *slowRun) take(name byte) {
	if name == 'n' && !r.quiet {
		r.put("", r.s+"\n")
	}
	r.flush()
	line := r.lines[r.read]
	r.read++
	if name == 'n' {
		r.s = line
	} else {
		r.s = r.longer(r.s, line)
	}
}

// plain does the commands behind which the next one follows.
func (r *slowRun) plain(c api.Command) {
	switch c.Name {
	case '=':
		r.put("", fmt.Sprintln(r.read))
	case 'i':
		r.put("", c.Text)
	case 'l':
		r.put("", slowList(r.s))
	case 'p':
		r.put("", r.s+"\n")
	case 'P':
		r.put("", strings.Split(r.s, "\n")[0]+"\n")
	case 'w':
		r.put(c.File, r.s+"\n")
	case 'a', 'r':
		count := 0
		for _, q := range append(slices.Clone(r.queue), "-"+c.Text+c.File) {
			count += len(q) - 1
		}
		if count > 1024 {
			r.fail(api.ErrSpace)
		}
		r.queue = append(r.queue, string(c.Name)+c.Text+c.File)
	case 'g':
		r.s = r.h
	case 'h':
		r.h = r.s
	case 'x':
		r.s, r.h = r.h, r.s
	case 'G':
		r.s = r.longer(r.s, r.h)
	case 'H':
		r.h = r.longer(r.h, r.s)
	case 'y':
		r.s = strings.Map(func(b rune) rune {
			if i := strings.IndexRune(c.From, b); i >= 0 {
				return rune(c.To[i])
			}
			return b
		}, r.s)
	case 's':
		r.exchange(c)
	}
}

// slowList writes a text as l does: here, of bytes that are seen, newlines, tabs and backslashes alone.
func slowList(text string) string {
	out, column := "", 0
	for _, b := range text {
		written := strings.NewReplacer("\\", "\\\\", "\n", "\\n", "\t", "\\t").Replace(string(b))
		if column+len(written) > 69 {
			out += "\\\n"
			column = 0
		}
		out += written
		column += len(written)
	}
	return out + "$\n"
}

func (r *slowRun) exchange(c api.Command) {
	if c.Re != "" {
		r.last = c.Re
	}
	if r.last == "none" {
		r.fail(api.ErrLast)
	}
	found := slowFound[r.last]
	for _, p := range c.Parts {
		if p.Group > found.NumSubexp() {
			r.fail(api.ErrBack)
		}
	}
	out, done, count := "", 0, 0
	for i, spans := range found.FindAllStringSubmatchIndex(r.s, -1) {
		if i+1 < c.Nth || i+1 > c.Nth && !c.All {
			continue
		}
		count++
		out += r.s[done:spans[0]]
		done = spans[1]
		for _, p := range c.Parts {
			out += p.Text
			if p.Group >= 0 && spans[2*p.Group] >= 0 {
				out += r.s[spans[2*p.Group]:spans[2*p.Group+1]]
			}
		}
	}
	if count == 0 {
		return
	}
	if len(out)+len(r.s)-done > 1024 {
		r.fail(api.ErrSpace)
	}
	r.s, r.mark = out+r.s[done:], true
	if c.Print {
		r.put("", r.s+"\n")
	}
	if c.File != "" {
		r.put(c.File, r.s+"\n")
	}
}

func (r *slowRun) meets(a api.Address) bool {
	switch a.Kind {
	case api.ALine:
		return r.read == a.Line
	case api.ALast:
		return r.read == len(r.lines)
	case api.AMatch:
		if a.Re != "" {
			r.last = a.Re
		}
		if r.last == "none" {
			r.fail(api.ErrLast)
		}
		return slowFound[r.last].MatchString(r.s)
	}
	return true
}

// chosen tells whether a command is for this line, and whether no range of it goes on.
func (r *slowRun) chosen(at int) (bool, bool) {
	c := r.ops[at].Command
	past := c.B.Kind == api.ALine && r.read > c.B.Line
	in := true
	if r.on[at] && !past {
		r.on[at] = c.B.Kind == api.ALine && r.read < c.B.Line || c.B.Kind != api.ALine && !r.meets(c.B)
	} else {
		in = r.meets(c.A)
		ends := c.B.Kind == api.ANone || c.B.Kind == api.ALine && r.read >= c.B.Line || c.B.Kind == api.ALast && r.read == len(r.lines)
		r.on[at] = in && !ends
	}
	return in != c.Not, !r.on[at]
}

// slowMachine is a slow run, of which some ticks were made, and for which some lines were fed.
type slowMachine struct {
	*slowRun
	ticks, fed    int
	closed, ended bool
	e             api.Errno
}

func (m *slowMachine) Step(fuel int) int {
	for made := 0; ; made++ {
		at := m.moments[m.ticks]
		if at.ended {
			m.ended, m.e = true, at.e
		}
		waiting := m.fed - at.read
		switch {
		case m.ended:
			return api.Done
		case made >= fuel:
			return api.Spent
		case at.needs && !m.closed && waiting < 2:
			return api.Hungry
		case at.begins && waiting == 0:
			m.ended = true
			return api.Done
		case m.ticks == 10000:
			m.ended, m.e = true, api.ErrTicks
			return api.Done
		}
		m.ticks++
	}
}

// told answers what the slow machine tells.
func (m *slowMachine) told() (told, []api.File) {
	at := m.moments[m.ticks]
	held := len(at.s) + len(at.h) + at.queued + len(strings.Join(m.lines[at.read:max(m.fed, at.read)], ""))
	var files []api.File
	for i, name := range m.names {
		files = append(files, named(name, m.data[name][:at.files[i]]))
	}
	return told{m.out[:at.out], at.s, at.h, at.read, m.ticks, held, m.e}, files
}

// pair is a machine and a slow one that are told the same.
type pair struct {
	m    *Machine
	slow slowMachine
	job  job
}

// newPair loads both; there is none, if the script has a fault.
func newPair(t *testing.T, j job) *pair {
	t.Helper()
	slow, want := newSlow(j)
	m, fault := Load(j.text, j.quiet, j.files)
	if fault != want || (m == nil) != (slow == nil) {
		t.Fatalf("Load(%q) = %v, %v, want %v", j.text, m, fault, want)
	}
	if m == nil {
		return nil
	}
	return &pair{m, slowMachine{slowRun: slow}, j}
}

// hold holds all that both tell against each other.
func (p *pair) hold(t *testing.T) {
	t.Helper()
	want, files := p.slow.told()
	if got := now(p.m); got != want || !slices.Equal(p.m.Files(), files) {
		t.Fatalf("%q, quiet %v, over %.60q: the machine tells\n%v, want\n%v; Files %.200q, want %.200q", p.job.text, p.job.quiet, p.job.lines, got, want, p.m.Files(), files)
	}
}

// step makes a step of both.
func (p *pair) step(t *testing.T, fuel int) int {
	t.Helper()
	got, want := p.m.Step(fuel), p.slow.Step(fuel)
	if got != want {
		t.Fatalf("%q, quiet %v, over %.60q: Step(%d) = %d behind %d ticks, want %d", p.job.text, p.job.quiet, p.job.lines, fuel, got, p.m.Ticks(), want)
	}
	p.hold(t)
	return got
}

// give feeds both the next line, or closes them.
func (p *pair) give(t *testing.T) {
	t.Helper()
	var e api.Errno
	want := api.OK
	if p.slow.ended || p.slow.closed {
		want = api.ErrState
	}
	if p.slow.fed < len(p.job.lines) {
		e = p.m.Feed(p.job.lines[p.slow.fed])
		if want == api.OK {
			p.slow.fed++
		}
	} else {
		e = p.m.Close()
		if want == api.OK {
			p.slow.closed = true
		}
	}
	checkErrno(t, "Feed or Close", e, want)
	p.hold(t)
}

// units are commands of every kind.
func units() []string {
	return []string{
		"p", "P", "=", "2=", "l", "d", "1d", "$!d", "D", "g", "G", "h", "H", "x", "n", "N", "$!n", "2N", "q", "2q", "b", "t", "bx", "2bx", "tx", ":x",
		"a\\\none", "i\\\ntwo", "c\\\nthree", "2,3c\\\nfour", "1,2!c\\\nfive", "/a/,/b/c\\\nsix", "r f", "2r g", "w g", "r none",
		"s/a/b/", "s/a*/<&>/gp", `s/\(a\)\(b*\)/\2\n\1/w g`, "s//y/2", `s//\1/`, "/b/s//a/2g", "s/$/\\n/", "y/ab\\n/ba,/",
		"/a/{\np\n=\n}", "2!{\nG\nn\n}", "/b/,/a/{\nN\nP\nD\n}", "//p", "1,//H", "2,3!d", "/a/,2p", "$!{\nN\nbx\n}",
	}
}

// lists are lines for short scripts.
func lists() [][]string {
	return [][]string{nil, {"ab"}, {"a", "b", "aab", "", "abc"}}
}

// All scripts of two commands, tick by tick, their lines fed when they are wanted.
func TestAllShortScripts(t *testing.T) {
	files := []api.File{named("f", "<f>\n"), named("g", "old\n")}
	count := map[api.Errno]int{}
	for _, first := range units() {
		for _, second := range units() {
			for _, lines := range lists() {
				for _, quiet := range []bool{false, true} {
					p := newPair(t, job{first + "\n" + second, quiet, files, lines})
					if p == nil {
						continue
					}
					for fuel := 1; ; {
						state := p.step(t, fuel)
						if state == api.Done {
							break
						}
						if state == api.Hungry {
							p.give(t)
						}
						// A run without an end is gone through faster.
						if p.m.Ticks() > 200 {
							fuel = 997
						}
					}
					count[p.m.Err()]++
				}
			}
		}
	}
	for _, e := range []api.Errno{api.OK, api.ErrLast, api.ErrBack, api.ErrTicks} {
		if count[e] < 10 {
			t.Errorf("the error %d was met %d times only", e, count[e])
		}
	}
}

// chance makes scripts by chance.
type chance struct {
	*rand.Rand
	labels map[string]bool
}

// one answers one of some texts.
func (c *chance) one(list ...string) string {
	return list[c.Intn(len(list))]
}

// addresses answers at most so many addresses.
func (c *chance) addresses(most int) string {
	list := []string{"1", "2", "3", "4", "$", "/a/", "/b/", "/c/", "/^$/", "/\\n/", "//"}
	text := ""
	switch kind := c.Intn(6); {
	case kind < 3 || most == 0:
		return ""
	case kind < 5 || most == 1:
		text = c.one(list...)
	default:
		text = c.one(list...) + "," + c.one(list...)
	}
	if c.Intn(4) == 0 {
		text += "!"
	}
	return text
}

// command answers a command, or a block of some.
func (c *chance) command(deep int) string {
	switch c.Intn(12) {
	case 0:
		return c.addresses(1) + c.one("a\\\none", "i\\\ntwo", "a\\\n"+ofLength(500), "r f", "r g", "r none", "q", "=")
	case 1:
		label := c.one("", "x", "y")
		c.labels[label] = true
		return c.addresses(2) + c.one("b", "t", "t") + label
	case 2:
		if deep > 0 {
			text := c.addresses(2) + "{\n"
			for range c.Intn(4) {
				text += c.command(deep-1) + "\n"
			}
			return text + "}"
		}
		return "x"
	case 3, 4, 5:
		return c.addresses(2) + c.exchange()
	case 6:
		return c.addresses(2) + c.one("c\\\nthree", "w g", "w f", "y/ab\\n/b\\na/", "l", "p", "P")
	case 7:
		return c.addresses(2) + c.one("n", "N", "N", "D", "d")
	}
	return c.addresses(2) + c.one("g", "G", "h", "H", "x", "p", "P", "G", "H")
}

// exchange answers an s.
func (c *chance) exchange() string {
	var bres []string
	for bre := range slowBREs {
		bres = append(bres, bre)
	}
	slices.Sort(bres)
	bre := c.one(append(bres, "", "", "")...)
	put := c.one("", "&", "&&", "x", "<&>", "a\\n", "\\nb", "ab", "c")
	if strings.Contains(bre, "(") || bre == "" && c.Intn(2) == 0 {
		put += "\\1"
	}
	return "s/" + bre + "/" + put + "/" + c.one("", "", "2", "g", "2g") + c.one("", "p") + c.one("", "", "w g")
}

// script answers a script in which the labels that are jumped to are there.
func (c *chance) script() string {
	c.labels = map[string]bool{}
	var list []string
	for range 1 + c.Intn(8) {
		list = append(list, c.command(2))
	}
	for _, label := range []string{"x", "y"} {
		if c.labels[label] {
			list = slices.Insert(list, c.Intn(len(list)+1), ":"+label)
		}
	}
	return c.one("", "", "", "#n\n") + strings.Join(list, "\n")
}

// job answers a script with files and lines.
func (c *chance) job() job {
	j := job{text: c.script(), quiet: c.Intn(3) == 0, files: []api.File{named("f", "<f>\n")}}
	if c.Intn(3) == 0 {
		j.files = append(j.files, named("g", longest[:c.Intn(30000)]))
	}
	for range c.Intn(8) {
		line := c.one("", "a", "b", "ab", "aab", "abc", "xaxb", "c", "\t\\")
		if c.Intn(15) == 0 {
			line = strings.Repeat("ab", 1+c.Intn(512))
		}
		j.lines = append(j.lines, line)
	}
	return j
}

// Scripts by chance, with the fuel cut and the lines fed by chance.
func TestRandomRuns(t *testing.T) {
	c := &chance{Rand: rand.New(rand.NewSource(25))}
	count, states := map[api.Errno]int{}, map[int]int{}
	for range 6000 {
		p := newPair(t, c.job())
		if p == nil {
			t.Fatal("a script with a fault")
		}
		p.hold(t)
		most := []int{1, 3, 20, 20000}[c.Intn(4)]
		eager := c.Intn(4)
		for state := api.Spent; state != api.Done || c.Intn(3) == 0; {
			if state == api.Hungry || c.Intn(4) < eager {
				p.give(t)
			}
			fuel := c.Intn(most+2) - 1
			if p.m.Ticks() > 300 {
				fuel = 3000
			}
			state = p.step(t, fuel)
			states[state]++
			if state == api.Hungry && p.slow.fed-p.m.Line() > 1 {
				t.Fatalf("%q: hungry, and %d lines wait", p.job.text, p.slow.fed-p.m.Line())
			}
		}
		count[p.m.Err()]++
	}
	for _, e := range []api.Errno{api.OK, api.ErrSpace, api.ErrOut, api.ErrLast, api.ErrBack, api.ErrTicks} {
		if count[e] < 30 {
			t.Errorf("the error %d was met %d times only", e, count[e])
		}
	}
	for _, state := range []int{api.Hungry, api.Spent, api.Done} {
		if states[state] < 1000 {
			t.Errorf("Step has answered %d %d times only", state, states[state])
		}
	}
}

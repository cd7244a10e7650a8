package run

import (
	"math/rand"
	"regexp"
	"slices"
	"strings"
	"testing"

	"runnel/api"
	"runnel/machine"
)

// A second run: the words are read by regular expressions out of one text, and all lines are fed at once, as many as can be.

// end stands behind each word, and within none.
const end = "\x01"

// slowOptions are what can stand in front, in the order in which it is tried; what stands in brackets is a piece's word.
var slowOptions = []struct {
	kind string
	re   *regexp.Regexp
}{
	{"last", regexp.MustCompile("^-[ef]" + end + "$")},
	{"quiet", regexp.MustCompile("^-n" + end)},
	{"word", regexp.MustCompile("^-e" + end + "([^" + end + "]*)" + end)},
	{"file", regexp.MustCompile("^-f" + end + "([^" + end + "]*)" + end)},
	{"end", regexp.MustCompile("^--" + end)},
	{"none", regexp.MustCompile("^-[^" + end + "]")},
	{"end", regexp.MustCompile("^")},
}

// slowWords answers the script, whether it is quiet, and the inputs.
func slowWords(list []string, files []api.File) (string, bool, []string, api.Fault) {
	text, script, quiet := "", "", false
	for _, word := range list {
		text += word + end
	}
	at := func() int { return len(list) - strings.Count(text, end) }
	first := map[string]string{}
	for _, f := range slices.Backward(files) {
		first[f.Name] = f.Data
	}
	for kind := ""; kind != "end"; {
		var found []string
		for _, option := range slowOptions {
			if found = option.re.FindStringSubmatch(text); found != nil {
				kind = option.kind
				break
			}
		}
		switch kind {
		case "last":
			return "", false, nil, api.Fault{E: api.ErrNone, At: at()}
		case "none":
			return "", false, nil, api.Fault{E: api.ErrArg, At: at()}
		case "quiet":
			quiet = true
		case "word":
			script += "\n" + found[1]
		case "file":
			data, there := first[found[1]]
			if !there {
				return "", false, nil, api.Fault{E: api.ErrNone, At: at() + 1}
			}
			script += "\n" + regexp.MustCompile(`\n\z`).ReplaceAllString(data, "")
		}
		text = text[len(found[0]):]
	}
	rest := strings.Split(text, end)
	rest = rest[:len(rest)-1]
	if script == "" {
		if len(rest) == 0 {
			return "", false, nil, api.Fault{E: api.ErrNone, At: len(list)}
		}
		script, rest = "\n"+rest[0], rest[1:]
	}
	if len(rest) == 0 {
		rest = []string{"-"}
	}
	return script[1:], quiet, rest, api.Fault{}
}

// slowLines answers all lines of the inputs, and whether one of them is missing.
func slowLines(job api.Job, inputs []string) ([]string, bool) {
	var list []string
	missing := false
	for _, name := range inputs {
		text := job.Input
		if name != "-" {
			at := slices.IndexFunc(job.Files, func(f api.File) bool { return f.Name == name })
			if at < 0 {
				missing = true
				continue
			}
			text = job.Files[at].Data
		}
		if text != "" {
			list = append(list, strings.Split(strings.TrimSuffix(text, "\n"), "\n")...)
		}
	}
	return list, missing
}

func slowRun(job api.Job) api.Result {
	script, quiet, inputs, fault := slowWords(job.Words, job.Files)
	if fault.E != api.OK {
		return api.Result{Status: 2, E: fault.E, At: fault.At}
	}
	m, fault := machine.Load(script, quiet, job.Files)
	if fault.E != api.OK {
		return api.Result{Status: 2, E: fault.E, At: fault.At}
	}
	list, missing := slowLines(job, inputs)
	// A line that is too long is never fed: a machine that is still hungry behind the lines ahead of it would have met it.
	cut := slices.IndexFunc(list, func(line string) bool { return len(line) > 1024 })
	if cut >= 0 {
		list = list[:cut]
	}
	for _, line := range list {
		m.Feed(line)
	}
	if cut < 0 {
		m.Close()
	}
	r := api.Result{State: m.Step(job.Fuel), Out: m.Out(), Files: m.Files(), Ticks: m.Ticks(), E: m.Err()}
	if r.State == api.Hungry {
		r.E = api.ErrSpace
	}
	if missing {
		r.Status = 1
	}
	if r.E != api.OK {
		r.Status = 3
	}
	return r
}

// hold holds a job's result against that of the second run.
func hold(t *testing.T, job api.Job) api.Result {
	t.Helper()
	got, want := Run(job), slowRun(job)
	if !same(got, want) {
		t.Fatalf("Run(%.300q, files %.200q, input %.100q, fuel %d) is\n%s, want\n%s", job.Words, job.Files, job.Input, job.Fuel, display(got), display(want))
	}
	return got
}

// lists gives all lists of as many of some words.
func lists(count int, pool []string, take func([]string)) {
	list := make([]string, count)
	var fill func(at int)
	fill = func(at int) {
		if at == count {
			take(list)
			return
		}
		for _, word := range pool {
			list[at] = word
			fill(at + 1)
		}
	}
	fill(0)
}

func TestAllShortLists(t *testing.T) {
	files := []api.File{named("f", "=\n"), named("p", "1\n2"), named("-n", "p\n\n"), named("--", "#\n")}
	count := map[api.Fault]int{}
	status := map[int]int{}
	try := func(list []string) {
		r := hold(t, api.Job{Words: list, Files: files, Input: "a\nb\n", Fuel: 40})
		count[api.Fault{E: r.E, At: r.At}]++
		status[r.Status]++
	}
	all := words("-n", "-e", "-f", "--", "-", "p", "f", "-x", "", "none")
	for length := range 5 {
		lists(length, all, try)
	}
	lists(5, all[:7], try)
	lists(6, all[:6], try)
	for at := range 6 {
		for _, e := range []api.Errno{api.ErrNone, api.ErrArg, api.ErrCommand} {
			// -x is in lists of four words alone, and the script's places are few.
			if fault := (api.Fault{E: e, At: at}); count[fault] == 0 && (e == api.ErrNone || e == api.ErrArg && at < 4 || at == 0) {
				t.Errorf("the fault %v was met by no list", fault)
			}
		}
	}
	for _, s := range []int{0, 1, 2} {
		if status[s] < 100 {
			t.Errorf("the status %d was met %d times only", s, status[s])
		}
	}
}

// chance makes jobs by chance.
type chance struct{ *rand.Rand }

func (c chance) one(list ...string) string {
	return list[c.Intn(len(list))]
}

// script answers some commands, most of which are none that have faults.
func (c chance) script() string {
	var list []string
	for range c.Intn(5) {
		list = append(list, c.one("", "", "", "1", "2", "$", "/a/", "/b/,/a/", "2,3", "$!")+c.one(
			"p", "p", "P", "l", "d", "D", "N", "n", "g", "G", "h", "H", "x", "s/a/<&>/g", `s/\(b\)*\(a\)/\2\1/`, "s//x/", "y/ab/ba/", "w out", "w f", "r out", "r f", "{p;=\n}", "bx", "s/b/&b/w out",
		))
		if c.Intn(12) == 0 {
			list = append(list, c.one("q", "i\\\ntext", "a\\\nmore", "=", ":x", "k", "pp", "{", "}", "s/a", ":y\ns/$/aaa/\nty", "s/$/aaaaaaaaaaaaaaaaaaaa/\n:y\nl;by", ":y\nby", "s/"))
		}
	}
	if strings.Contains(strings.Join(list, "\n"), "bx") && c.Intn(20) > 0 {
		list = append(list, ":x")
	}
	return strings.Join(list, c.one("\n", "\n", "\n", "\n\n"))
}

// lines answers a text of some lines, of which few are too long.
func (c chance) lines() string {
	text := ""
	for range c.Intn(7) {
		line := c.one("", "a", "b", "ab", "aab", "bba", "x")
		if c.Intn(40) == 0 {
			line = strings.Repeat(line, 1024) + c.one("", "x")
		}
		text += line + "\n"
	}
	if c.Intn(3) == 0 {
		text = strings.TrimSuffix(text, "\n")
	}
	return text
}

// job answers words in any order that makes sense, and a few that don't.
func (c chance) job() api.Job {
	job := api.Job{Input: c.lines(), Fuel: []int{-1, 0, 1, c.Intn(30), 100, much}[c.Intn(6)]}
	for _, name := range words("f", "g", "script", "-n", "-") {
		data := c.lines()
		if name == "script" {
			data = c.script() + c.one("", "\n", "\n\n")
		}
		if c.Intn(5) > 0 {
			job.Files = append(job.Files, named(name, data))
		}
	}
	if c.Intn(60) == 0 {
		job.Files = append(job.Files, named(c.one("f", "script", ""), c.script()))
	}
	c.Shuffle(len(job.Files), func(i, k int) { job.Files[i], job.Files[k] = job.Files[k], job.Files[i] })
	for c.Intn(3) > 0 {
		switch c.Intn(8) {
		case 0:
			job.Words = append(job.Words, "-n")
		case 1, 2, 3:
			job.Words = append(job.Words, "-e", c.script())
		case 4, 5, 6:
			job.Words = append(job.Words, "-f", "script")
		default:
			job.Words = append(job.Words, c.one("-n", "-n", "-n", "-x", "-e", "-f"))
		}
	}
	if c.Intn(3) == 0 {
		job.Words = append(job.Words, "--")
	}
	if !slices.Contains(job.Words, "-e") && !slices.Contains(job.Words, "-f") {
		job.Words = append(job.Words, c.script())
	}
	for range c.Intn(4) {
		job.Words = append(job.Words, c.one("f", "g", "-", "-", "script", "none", "-n", "out"))
	}
	return job
}

func TestJobsByChance(t *testing.T) {
	c := chance{rand.New(rand.NewSource(26))}
	errnos, statuses, states := map[api.Errno]int{}, map[int]int{}, map[int]int{}
	for range 20000 {
		job := c.job()
		r := hold(t, job)
		errnos[r.E]++
		statuses[r.Status]++
		states[r.State]++
	}
	for _, e := range []api.Errno{
		api.OK, api.ErrArg, api.ErrNone, api.ErrName, api.ErrCommand, api.ErrText, api.ErrEnd, api.ErrLabel, api.ErrBlock, api.ErrLast, api.ErrSpace, api.ErrOut, api.ErrTicks,
	} {
		if errnos[e] < 10 {
			t.Errorf("the error %d was met %d times only", e, errnos[e])
		}
	}
	for s := range 4 {
		if statuses[s] < 500 || states[s] < 50 {
			t.Errorf("the status %d was met %d times only, the state %d times", s, statuses[s], states[s])
		}
	}
}

package run

import (
	"math/rand"
	"slices"
	"strings"
	"testing"

	"runnel/api"
	"runnel/bre"
	"runnel/canon"
	"runnel/lines"
	"runnel/listing"
	"runnel/measure"
	"runnel/show"
	"runnel/slow"
)

// Here the promises of the whole, P1 to P7, are held against whole runs.

// scriptsOfAllKinds are scripts that end by themselves, by an error, and never.
func scriptsOfAllKinds() []string {
	return []string{
		"", "p", "$!N;P;D", "1!G;h;$!d", "s/a*/<&>/gw out", "n;d", "$!{h;d\n}\nH;x", "/a/,/b/{=;l\n}", "2q", "/b/!s//x/;y/ax/xa/",
		"i\\\none\na\\\ntwo\nr in\n2c\\\nthree", "w out\nr out\nx;P", ":a;s/^\\(x*\\)[^x]/\\1x/;ta", "N;N;s/\\n/+/g", ":a;$!{N;ba\n}\ns/\\n/,/g",
		"s//x/", "2s//x/", "/a/s//\\1/", ":a;G;h;ba", ":a;ba", ":a;s/$/xxxxxxxx/;l;ba", `/\(a*\)*\1/p`, "D", "G;D", "s/^/a\\\n/;P;D",
	}
}

// P1: a run of anything at all ends without a panic.
func TestAnythingAtAll(t *testing.T) {
	c := chance{rand.New(rand.NewSource(1))}
	bytes := "-nef;{}/\\$^*.[]!,0123abcxyzspqDGHNPltw:#& \t\n\x00\xff"
	noise := func(most int) string {
		text := make([]byte, c.Intn(most))
		for i := range text {
			text[i] = bytes[c.Intn(len(bytes))]
		}
		return string(text)
	}
	bent := func(text string) string {
		at := c.Intn(len(text) + 1)
		return text[:at] + noise(3) + text[min(len(text), at+c.Intn(3)):]
	}
	met := map[int]int{}
	for range 50000 {
		job := api.Job{Input: noise(30), Fuel: c.Intn(600) - 50}
		if c.Intn(2) == 0 {
			job.Words = words("-e", bent(c.one(scriptsOfAllKinds()...)))
		}
		for range c.Intn(5) {
			job.Words = append(job.Words, c.one("-e", "-f", "-n", "--", "f", noise(4), bent(c.one(scriptsOfAllKinds()...)), bent(bent(c.script()))))
		}
		for range c.Intn(4) {
			job.Files = append(job.Files, named(c.one("f", "g", "in", noise(3)), noise(40)))
		}
		r := Run(job)
		met[r.Status]++
		if (r.Status == 2) != (r.State == 0) || (r.Status < 2) != (r.E == api.OK) || r.Status == 2 && !same(r, api.Result{Status: 2, E: r.E, At: r.At}) {
			t.Fatalf("Run(%q, files %q, input %q, fuel %d) is %s", job.Words, job.Files, job.Input, job.Fuel, display(r))
		}
	}
	for s := range 4 {
		if met[s] < 100 {
			t.Errorf("the status %d was met %d times only", s, met[s])
		}
	}
}

// P2: a job has one result, whatever was run ahead of it.
func TestTheSameJobTwice(t *testing.T) {
	var first []api.Result
	job := func(script string, fuel int) api.Job {
		return api.Job{Words: words("-e", script, "in", "-", "none"), Files: []api.File{named("in", "ab\nb\n"), named("b", "1"), named("a", "2")}, Input: "a\n\nab", Fuel: fuel}
	}
	for _, script := range scriptsOfAllKinds() {
		first = append(first, Run(job(script, 3000)))
	}
	for range 3 {
		for i, script := range slices.Backward(scriptsOfAllKinds()) {
			check(t, job(script, 3000), first[i])
		}
	}
}

// places is a BRE in whose matches its groups are seen, with how many groups it has.
type places struct {
	bre    string
	groups int
}

// P3: what is exchanged is the derivation that is ahead of all others, down to each group; with a back-reference beside it (of an empty group) it is the same.
func TestOneMatch(t *testing.T) {
	for _, c := range []places{
		{`\(a*\)\(b*\)`, 2}, {`\(a*\)*b`, 1}, {`\(a\{1,2\}\)\{1,2\}\(ab\)*`, 2}, {`\(\(a\)*b*\)*`, 2}, {`\(a*\)\(ab\)*\(b*\)`, 3}, {`\([ab]\)\{2\}`, 1}, {`\(a*b\)\{0,2\}\(.\)`, 2}, {`\(a\(b*\)\)*`, 2},
	} {
		tree, _ := bre.Parse(c.bre)
		for length := range 6 {
			lists(length, words("a", "b"), func(list []string) {
				subject := strings.Join(list, "")
				want := subject
				for at := range len(subject) + 1 {
					if best, found := slow.Best(tree, c.groups, subject, at); found {
						put := ""
						for _, span := range best.Spans[1:] {
							if span.From >= 0 {
								put += subject[span.From:span.To]
							}
							put += "|"
						}
						want = subject[:at] + "<" + put + ">" + subject[best.Spans[0].To:]
						break
					}
				}
				plain, beside := "<", "<"
				for k := range c.groups {
					plain += "\\" + string(rune('1'+k)) + "|"
					beside += "\\" + string(rune('2'+k)) + "|"
				}
				checkOut(t, words("s/"+c.bre+"/"+plain+">/"), subject+"\n", want+"\n")
				checkOut(t, words(`s/\(\)\1`+c.bre+"/"+beside+">/"), subject+"\n", want+"\n")
			})
		}
	}
}

// P4: a script's one form runs as the script does, a BRE's one text matches as the BRE does, and what l writes is read back.
func TestOneText(t *testing.T) {
	files := []api.File{named("in", "ab\nb\n")}
	for _, script := range scriptsOfAllKinds() {
		text, fault := show.Text(script)
		if fault.E != api.OK {
			t.Fatalf("show.Text(%q): %v", script, fault)
		}
		for _, fuel := range []int{5, 500} {
			check(t, api.Job{Words: words(text, "in", "-"), Files: files, Input: "a\n\nab", Fuel: fuel}, Run(api.Job{Words: words(script, "in", "-"), Files: files, Input: "a\n\nab", Fuel: fuel}))
		}
	}
	for _, text := range words("[a]\\{0,\\}b", "a\\{1\\}", "[[:alpha:]]\\{0,1\\}", "\\(^a\\)\\{1,1\\}", "[ab]*$") {
		one, _ := canon.Text(text)
		known, _ := measure.Of(text)
		if one == text && known.Positions > 2 {
			t.Errorf("%q is its own one text", text)
		}
		for _, input := range words("", "ab", "aab\nb\nba", "xaxb") {
			check(t, api.Job{Words: words("s/" + one + "/<&>/g"), Input: input, Fuel: 100}, Run(api.Job{Words: words("s/" + text + "/<&>/g"), Input: input, Fuel: 100}))
		}
	}
	var all []byte
	for b := range 256 {
		if b != '\n' {
			all = append(all, byte(b))
		}
	}
	for _, line := range words("", "a\\b\tc", string(all), strings.Repeat("\xff", 100)) {
		r := Run(api.Job{Words: words("-n", "l"), Input: line + "\n", Fuel: 100})
		if text, e := listing.Read(lines.Cut(r.Out)); text != line || e != api.OK {
			t.Errorf("of %q l has written %q, which is read as %q, %d", line, r.Out, text, e)
		}
	}
}

// P5: what is written hangs on the script, the files and the lines, not on the inputs in which the lines came; and what is written behind fewer ticks is a beginning of what is written behind more.
func TestOneRun(t *testing.T) {
	files := []api.File{named("1", "ab\nb\n"), named("2", "a"), named("3", ""), named("all", "ab\nb\na\n\nab\n"), named("in", "in")}
	for _, script := range scriptsOfAllKinds() {
		job := api.Job{Files: files, Input: "\nab", Fuel: 60}
		whole := job
		job.Words, whole.Words = words(script, "1", "3", "2", "-"), words(script, "all")
		check(t, job, Run(whole))
		job.Fuel = -1
		for ahead := Run(job); job.Fuel < 60; job.Fuel++ {
			next := Run(job)
			if !strings.HasPrefix(next.Out, ahead.Out) || next.Ticks < ahead.Ticks || next.Ticks > max(0, job.Fuel) {
				t.Fatalf("%q: with fuel %d it is %s, with less %s", script, job.Fuel, display(next), display(ahead))
			}
			for i, f := range next.Files {
				if !strings.HasPrefix(f.Data, ahead.Files[i].Data) {
					t.Fatalf("%q: with fuel %d there are the files %q, with less %q", script, job.Fuel, next.Files, ahead.Files)
				}
			}
			if ahead.State == api.Done && !same(next, ahead) {
				t.Fatalf("%q: with fuel %d it is %s, with enough %s", script, job.Fuel, display(next), display(ahead))
			}
			ahead = next
		}
	}
}

// P6: of the lines behind the one that was read at most one is fed: a line that is refused is met when the line ahead of it is read, not earlier.
func TestNothingIsHeldBack(t *testing.T) {
	for good := range 6 {
		input := strings.Repeat("a\n", good) + ofLength(1025) + "\n"
		for last := 1; last < 7; last++ {
			want := api.Result{Out: strings.Repeat("a\n", last), State: api.Done, Ticks: 3 * last}
			if last >= good {
				read := max(0, good-1)
				want = api.Result{Out: strings.Repeat("a\n", read), Status: 3, E: api.ErrSpace, State: api.Hungry, Ticks: 3 * read}
			}
			check(t, api.Job{Words: words(string(rune('0'+last)) + "q"), Input: input, Fuel: much}, want)
		}
	}
}

// P7: with enough fuel a run ends, by itself or by an error, and its output has a bound.
func TestEveryRunEnds(t *testing.T) {
	met := map[api.Errno]int{}
	for _, script := range scriptsOfAllKinds() {
		for _, input := range words("", "a", "ab\nb\n\nab", strings.Repeat("ab\n", 4000), strings.Repeat("a", 1024)) {
			r := Run(api.Job{Words: words(script), Input: input, Fuel: much})
			if r.State != api.Done || r.Ticks > api.MaxTicks {
				t.Errorf("%q over %.20q of %d bytes: %s", script, input, len(input), display(r))
			}
			count := len(r.Out)
			for _, f := range r.Files {
				count += len(f.Data)
			}
			if count > api.MaxOut {
				t.Errorf("%q over %.20q of %d bytes has written %d bytes", script, input, len(input), count)
			}
			met[r.E]++
		}
	}
	for _, e := range []api.Errno{api.OK, api.ErrTicks, api.ErrSpace, api.ErrOut, api.ErrLast, api.ErrBack, api.ErrWays} {
		if met[e] == 0 {
			t.Errorf("no run has ended by the error %d", e)
		}
	}
}

// As much output as may be, with files, and one byte more.
func TestAsMuchOutputAsMayBe(t *testing.T) {
	for _, c := range []struct {
		bytes int
		want  api.Result
	}{
		{32768 - 4, api.Result{Out: "a\n" + ofLength(32768-4), State: api.Done, Ticks: 4}},
		{32768 - 3, api.Result{Out: "a\n", Status: 3, E: api.ErrOut, State: api.Done, Ticks: 4}},
	} {
		files := []api.File{named("f", ofLength(c.bytes))}
		c.want.Files = append(files, named("g", "a\n"))
		check(t, api.Job{Words: words("w g\nr f"), Files: files, Input: "a", Fuel: much}, c.want)
	}
}

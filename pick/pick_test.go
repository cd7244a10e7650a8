package pick

import (
	"math"
	"strings"
	"testing"
	"unsafe"

	"runnel/api"
	"runnel/matcher"
)

var (
	none = api.Address{}
	end  = api.Address{Kind: api.ALast}
)

// line answers the address of a line.
func line(number int) api.Address {
	return api.Address{Kind: api.ALine, Line: number}
}

// match answers the address of a BRE.
func match(re string) api.Address {
	return api.Address{Kind: api.AMatch, Re: re}
}

// picker answers a picker of rows that have no fault.
func picker(t *testing.T, rows ...api.Row) *Picker {
	t.Helper()
	p, e := New(rows)
	if p == nil || e != api.OK {
		t.Fatalf("New(%v) = %v, %d", rows, p, e)
	}
	return p
}

// read answers the matcher of a BRE that has no fault.
func read(t *testing.T, text string) *matcher.Matcher {
	t.Helper()
	m, fault := matcher.New(text)
	if fault.E != api.OK {
		t.Fatalf("matcher.New(%q): %v", text, fault)
	}
	return m
}

// checkAsk holds Ask against two bools without an error.
func checkAsk(t *testing.T, p *Picker, i, number int, last bool, space string, in, off bool) {
	t.Helper()
	gotIn, gotOff, e := p.Ask(i, number, last, space)
	if gotIn != in || gotOff != off || e != api.OK {
		t.Errorf("Ask(%d, %d, %v, %.40q) = %v, %v, %d, want %v, %v", i, number, last, space, gotIn, gotOff, e, in, off)
	}
}

// checkRefused holds Ask against an error.
func checkRefused(t *testing.T, p *Picker, i, number int, last bool, space string, want api.Errno) {
	t.Helper()
	in, off, e := p.Ask(i, number, last, space)
	if in || off || e != want {
		t.Errorf("Ask(%d, %d, %v, %.40q) = %v, %v, %d, want the error %d", i, number, last, space, in, off, e, want)
	}
}

// checkLast holds the BRE used last against a text; "-": there is none.
func checkLast(t *testing.T, p *Picker, want string) {
	t.Helper()
	m := p.Last()
	if (m == nil) != (want == "-") || m != nil && m.Text() != want {
		t.Errorf("the BRE used last is %q (none: %v), want %q", m.Text(), m == nil, want)
	}
}

// asked is an Ask without an error, in a list of them.
type asked struct {
	number  int
	last    bool
	space   string
	in, off bool
}

// checkRow asks a picker of one row again and again.
func checkRow(t *testing.T, row api.Row, list ...asked) {
	t.Helper()
	p := picker(t, row)
	for _, a := range list {
		checkAsk(t, p, 0, a.number, a.last, a.space, a.in, a.off)
	}
}

// tooMany is a BRE that every text matches, unless it has too many ways there; of many it has.
const tooMany = `\(a*\)a*a*\1`

var many = strings.Repeat("a", 30)

func TestTheChaptersExamples(t *testing.T) {
	checkRow(t, api.Row{A: line(2), B: line(4)},
		asked{1, false, "", false, true},
		asked{2, false, "", true, false},
		asked{3, false, "", true, false},
		asked{4, false, "", true, true},
		asked{5, true, "", false, true})
	checkRow(t, api.Row{A: line(2), B: line(1)},
		asked{1, false, "", false, true},
		asked{2, false, "", true, true},
		asked{3, true, "", false, true})
	checkRow(t, api.Row{A: match("a"), B: match("b")},
		asked{1, false, "a", true, false},
		asked{2, false, "b", true, true},
		asked{3, false, "a", true, false},
		asked{4, true, "c", true, false})
	checkRow(t, api.Row{A: line(3), B: line(3), Not: true},
		asked{1, false, "", true, true},
		asked{2, false, "", true, true},
		asked{3, false, "", false, true},
		asked{4, false, "", true, true},
		asked{5, true, "", true, true})
	checkRow(t, api.Row{A: match("a"), B: end},
		asked{1, false, "x", false, true},
		asked{2, false, "a", true, false},
		asked{3, false, "x", true, false},
		asked{4, true, "x", true, true})
	checkRow(t, api.Row{A: line(2), B: line(4)},
		asked{2, false, "", true, false},
		asked{7, false, "", false, true})
	checkRefused(t, picker(t, api.Row{A: match("")}), 0, 1, false, "a", api.ErrLast)
}

func TestNewOfNoRows(t *testing.T) {
	for _, rows := range [][]api.Row{nil, {}, make([]api.Row, 0, 3)} {
		p, e := New(rows)
		if p == nil || e != api.OK || p.Last() != nil {
			t.Fatalf("New of no rows = %v, %d", p, e)
		}
		checkRefused(t, p, 0, 1, true, "", api.ErrArg)
	}
}

// checkNew holds New against an error, with nothing beside it.
func checkNew(t *testing.T, want api.Errno, rows ...api.Row) {
	t.Helper()
	if p, e := New(rows); p != nil || e != want {
		t.Errorf("New of %d rows, the first %v, = %v, %d, want %d", len(rows), rows[0], p, e, want)
	}
}

func TestNewRefusesAddresses(t *testing.T) {
	for _, kind := range []int{-1, 4, 5, 99, -256, 256, math.MinInt, math.MaxInt} {
		bad := api.Address{Kind: kind, Line: 1, Re: "a"}
		checkNew(t, api.ErrAddress, api.Row{A: bad})
		checkNew(t, api.ErrAddress, api.Row{A: line(1), B: bad})
		checkNew(t, api.ErrAddress, api.Row{B: bad})
	}
	for _, number := range []int{0, -1, -2, math.MinInt} {
		checkNew(t, api.ErrAddress, api.Row{A: line(number)})
		checkNew(t, api.ErrAddress, api.Row{A: line(1), B: line(number)})
	}
	for _, b := range []api.Address{line(1), end, match("a"), match("")} {
		checkNew(t, api.ErrAddress, api.Row{B: b})
		checkNew(t, api.ErrAddress, api.Row{B: b, Not: true})
	}
}

// The errors of BREs, A's and B's.
func TestNewRefusesBres(t *testing.T) {
	cases := []struct {
		re   string
		want api.Errno
	}{
		{strings.Repeat("a", api.MaxBre+1), api.ErrLong},
		{"[a", api.ErrEnd},
		{"[b-a]", api.ErrRange},
		{"[[:x:]]", api.ErrClass},
		{`a\{2,1\}`, api.ErrRepeat},
		{`\(a`, api.ErrParen},
		{`\1`, api.ErrBack},
		{`a\{200\}b\{57\}`, api.ErrTooBig},
		{strings.Repeat(`\(a\)`, 10), api.ErrFull},
	}
	for _, c := range cases {
		checkNew(t, c.want, api.Row{A: match(c.re)})
		checkNew(t, c.want, api.Row{A: end, B: match(c.re)})
	}
}

// Fields that a kind doesn't use are not looked at.
func TestFieldsOfOtherKinds(t *testing.T) {
	p := picker(t,
		api.Row{A: api.Address{Kind: api.ANone, Line: -1, Re: "[a"}, B: api.Address{Kind: api.ANone, Line: 5, Re: "a"}},
		api.Row{A: api.Address{Kind: api.ALine, Line: 1, Re: "[a"}},
		api.Row{A: api.Address{Kind: api.ALast, Line: -1, Re: "[a"}},
		api.Row{A: api.Address{Kind: api.AMatch, Line: -1, Re: "a"}})
	for i, want := range []bool{true, true, false, false} {
		checkAsk(t, p, i, 1, false, "b", want, true)
	}
	for i, want := range []bool{true, false, true, true} {
		checkAsk(t, p, i, 2, true, "a", want, true)
	}
}

func TestTheOrderOfNewsErrors(t *testing.T) {
	// Within a row: A, then B, then that there is no A.
	checkNew(t, api.ErrEnd, api.Row{A: match("[a"), B: match(`\(a`)})
	checkNew(t, api.ErrParen, api.Row{A: match(`\(a`), B: match("[a")})
	checkNew(t, api.ErrEnd, api.Row{A: match("[a"), B: line(0)})
	checkNew(t, api.ErrAddress, api.Row{A: line(0), B: match("[a")})
	checkNew(t, api.ErrAddress, api.Row{A: api.Address{Kind: 4}, B: match("[a")})
	checkNew(t, api.ErrEnd, api.Row{B: match("[a")})
	// Of rows, the first one's.
	good, bad, worse := api.Row{A: line(1)}, api.Row{A: end, B: match("[a")}, api.Row{A: match(`\(a`)}
	checkNew(t, api.ErrEnd, good, bad, worse)
	checkNew(t, api.ErrParen, good, worse, bad)
	checkNew(t, api.ErrAddress, good, api.Row{B: end}, bad)
	checkNew(t, api.ErrEnd, bad, api.Row{B: end})
	// Ahead of all of them, that there are too many.
	checkNew(t, api.ErrFull, append(make([]api.Row, api.MaxScript), bad)...)
	rows := make([]api.Row, api.MaxScript+1)
	rows[0] = bad
	checkNew(t, api.ErrFull, rows...)
}

func TestAsManyRowsAsMayBe(t *testing.T) {
	rows := make([]api.Row, api.MaxScript)
	for i := range rows {
		rows[i] = api.Row{A: line(i + 1), B: line(i + 2)}
	}
	p := picker(t, rows...)
	for i := range rows {
		checkAsk(t, p, i, i, false, "", false, true)
		checkAsk(t, p, i, i+1, false, "", true, false)
	}
	for i := range rows {
		checkAsk(t, p, i, i+2, false, "", true, true)
	}
	checkRefused(t, p, api.MaxScript, 1, false, "", api.ErrArg)
	checkNew(t, api.ErrFull, make([]api.Row, api.MaxScript+1)...)
	checkNew(t, api.ErrFull, make([]api.Row, 2*api.MaxScript)...)
}

func TestWhatAnAddressMeets(t *testing.T) {
	// Without addresses, every line.
	checkRow(t, api.Row{},
		asked{1, false, "", true, true},
		asked{0, true, "a", true, true},
		asked{math.MinInt, false, "", true, true})
	checkRow(t, api.Row{Not: true},
		asked{1, false, "", false, true},
		asked{2, true, "x", false, true})
	// A line's number alone counts, and it may come again.
	checkRow(t, api.Row{A: line(2)},
		asked{1, false, "2", false, true},
		asked{2, false, "", true, true},
		asked{2, true, "", true, true},
		asked{3, true, "", false, true},
		asked{-2, false, "", false, true},
		asked{2, false, "", true, true})
	checkRow(t, api.Row{A: line(math.MaxInt)},
		asked{math.MaxInt, false, "", true, true},
		asked{math.MaxInt - 1, false, "", false, true})
	checkRow(t, api.Row{A: end},
		asked{1, false, "$", false, true},
		asked{1, true, "", true, true},
		asked{9, false, "", false, true},
		asked{-9, true, "", true, true})
	checkRow(t, api.Row{A: match("^a.c$")},
		asked{1, false, "abc", true, true},
		asked{2, false, "xabc", false, true},
		asked{3, true, "a\nc", true, true},
		asked{4, true, "", false, true})
	checkRow(t, api.Row{A: match(`\(.\)\1`), Not: true},
		asked{1, false, "abccd", false, true},
		asked{2, false, "abcd", true, true})
	// A match may be empty, and lie anywhere.
	checkRow(t, api.Row{A: match("x*")},
		asked{1, false, "", true, true},
		asked{2, false, "abc", true, true})
	checkRow(t, api.Row{A: match("c$")},
		asked{1, false, strings.Repeat("c", api.MaxSpace), true, true},
		asked{2, false, strings.Repeat("c", api.MaxSpace-1) + "d", false, true})
}

// The second line of a range, ahead of the first one, at it and behind it.
func TestRangesUpToALine(t *testing.T) {
	for _, not := range []bool{false, true} {
		for b := 1; b <= 8; b++ {
			p := picker(t, api.Row{A: line(4), B: line(b), Not: not})
			for number := 1; number <= 10; number++ {
				in := number == 4 || 4 < number && number <= b
				off := number < 4 || number >= b
				checkAsk(t, p, 0, number, number == 10, "", in != not, off)
			}
		}
	}
}

// A range whose line was left out has ended, and its row is asked anew: A is looked at.
func TestARangeThatHasPassedItsLine(t *testing.T) {
	checkRow(t, api.Row{A: match("a"), B: line(4)},
		asked{2, false, "a", true, false},
		asked{5, false, "a", true, true},
		asked{6, false, "b", false, true},
		asked{3, false, "a", true, false},
		asked{5, false, "b", false, true},
		asked{4, false, "b", false, true})
	checkRow(t, api.Row{A: end, B: line(4)},
		asked{2, true, "", true, false},
		asked{7, true, "", true, true},
		asked{3, false, "", false, true})
	checkRow(t, api.Row{A: line(2), B: line(4), Not: true},
		asked{2, false, "", false, false},
		asked{7, false, "", true, true},
		asked{3, false, "", true, true})
	checkRow(t, api.Row{A: line(9), B: line(4)},
		asked{9, false, "", true, true},
		asked{9, false, "", true, true})
	// Numbers that fall keep it going.
	checkRow(t, api.Row{A: line(2), B: line(4)},
		asked{2, false, "", true, false},
		asked{1, false, "", true, false},
		asked{-5, true, "", true, false},
		asked{2, false, "", true, false},
		asked{4, false, "", true, true},
		asked{3, false, "", false, true})
}

func TestRangesUpToTheLastLine(t *testing.T) {
	for _, a := range []api.Address{line(2), match("a")} {
		checkRow(t, api.Row{A: a, B: end},
			asked{1, false, "b", false, true},
			asked{2, false, "a", true, false},
			asked{3, false, "b", true, false},
			asked{2, false, "a", true, false},
			asked{4, true, "b", true, true},
			asked{5, true, "b", false, true},
			asked{2, true, "a", true, true},
			asked{3, false, "b", false, true})
	}
	checkRow(t, api.Row{A: end, B: end},
		asked{1, false, "", false, true},
		asked{2, true, "", true, true},
		asked{3, false, "", false, true})
	checkRow(t, api.Row{A: end, B: line(5)},
		asked{1, true, "", true, false},
		asked{2, false, "", true, false},
		asked{5, false, "", true, true},
		asked{6, true, "", true, true},
		asked{5, true, "", true, true})
}

// B's BRE is not looked at in the line in which the range begins.
func TestRangesUpToAMatch(t *testing.T) {
	checkRow(t, api.Row{A: match("a"), B: match("b")},
		asked{1, false, "ab", true, false},
		asked{2, false, "a", true, false},
		asked{3, false, "ab", true, true},
		asked{4, false, "b", false, true},
		asked{5, true, "ab", true, false},
		asked{6, true, "", true, false})
	checkRow(t, api.Row{A: end, B: match("b"), Not: true},
		asked{1, false, "b", true, true},
		asked{2, true, "b", false, false},
		asked{3, false, "", false, false},
		asked{4, false, "b", false, true},
		asked{5, false, "", true, true})
	p := picker(t, api.Row{A: match("a"), B: match("b")})
	checkAsk(t, p, 0, 1, false, "a", true, false)
	checkLast(t, p, "a")
	checkAsk(t, p, 0, 2, false, "a", true, false)
	checkLast(t, p, "b")
}

func TestUse(t *testing.T) {
	p := picker(t, api.Row{A: match("")})
	checkLast(t, p, "-")
	p.Use(nil)
	checkLast(t, p, "-")
	m := read(t, "b")
	p.Use(m)
	if p.Last() != m {
		t.Error("Last is not what Use was told")
	}
	p.Use(nil)
	if p.Last() != m {
		t.Error("Use(nil) has changed what Last tells")
	}
	checkAsk(t, p, 0, 1, false, "abc", true, true)
	checkAsk(t, p, 0, 1, false, "ac", false, true)
	p.Use(read(t, "c"))
	checkAsk(t, p, 0, 1, false, "ac", true, true)
	checkLast(t, p, "c")
	// An empty BRE that was used is one, too.
	p.Use(read(t, ""))
	checkAsk(t, p, 0, 1, false, "ac", true, true)
	checkLast(t, p, "")
}

func TestEmptyBres(t *testing.T) {
	p := picker(t,
		api.Row{A: match("")},
		api.Row{A: match("a"), B: match("")},
		api.Row{A: line(1), B: match("")},
		api.Row{A: match("b")})
	checkRefused(t, p, 0, 1, false, "a", api.ErrLast)
	// Where the range begins, the empty B isn't looked at; where it goes on, it is.
	checkAsk(t, p, 2, 1, false, "a", true, false)
	checkRefused(t, p, 2, 2, false, "a", api.ErrLast)
	checkRefused(t, p, 2, 3, true, "a", api.ErrLast)
	checkLast(t, p, "-")
	// The BRE of the row's own A.
	checkAsk(t, p, 1, 1, false, "a", true, false)
	checkLast(t, p, "a")
	checkAsk(t, p, 1, 2, false, "x", true, false)
	checkAsk(t, p, 1, 3, false, "xa", true, true)
	// Another row's.
	checkAsk(t, p, 0, 4, false, "b", false, true)
	checkAsk(t, p, 3, 4, false, "x", false, true)
	checkLast(t, p, "b")
	checkAsk(t, p, 0, 4, false, "b", true, true)
	checkAsk(t, p, 2, 4, false, "a", true, false)
	checkAsk(t, p, 2, 5, false, "b", true, true)
	// One that Use has told, in place of the row's own.
	checkAsk(t, p, 1, 6, false, "a", true, false)
	p.Use(read(t, "z"))
	checkAsk(t, p, 1, 7, false, "a", true, false)
	checkAsk(t, p, 1, 8, false, "z", true, true)
}

// A line that isn't asked of a BRE uses none.
func TestWhatIsNotUsed(t *testing.T) {
	p := picker(t,
		api.Row{A: line(1), B: match("b")},
		api.Row{A: match("a"), B: line(3)},
		api.Row{A: match("c"), B: end})
	checkAsk(t, p, 0, 1, false, "b", true, false)
	checkLast(t, p, "-")
	checkAsk(t, p, 1, 1, false, "a", true, false)
	checkLast(t, p, "a")
	p.Use(read(t, "z"))
	checkAsk(t, p, 1, 2, false, "a", true, false)
	checkAsk(t, p, 1, 3, false, "a", true, true)
	checkLast(t, p, "z")
	checkAsk(t, p, 2, 1, false, "c", true, false)
	p.Use(read(t, "z"))
	checkAsk(t, p, 2, 1, true, "c", true, true)
	checkLast(t, p, "z")
}

func TestTheRangeBehindAnError(t *testing.T) {
	long := strings.Repeat("b", api.MaxSpace+1)
	// A range that goes on goes on.
	p := picker(t, api.Row{A: line(1), B: match(tooMany)})
	checkAsk(t, p, 0, 1, false, long, true, false)
	for range 2 {
		checkRefused(t, p, 0, 2, false, long, api.ErrSpace)
		checkRefused(t, p, 0, 2, true, many, api.ErrWays)
	}
	checkLast(t, p, tooMany)
	checkAsk(t, p, 0, 2, false, "b", true, true)
	checkAsk(t, p, 0, 2, false, many, false, true)
	// One that doesn't, doesn't.
	for _, b := range []api.Address{line(9), end, match("x"), none} {
		p := picker(t, api.Row{A: match(tooMany), B: b}, api.Row{A: match(""), B: b})
		checkRefused(t, p, 1, 1, false, "", api.ErrLast)
		checkRefused(t, p, 0, 1, false, long, api.ErrSpace)
		checkRefused(t, p, 0, 1, false, many, api.ErrWays)
		p.Use(read(t, "q"))
		checkAsk(t, p, 1, 1, false, "x", false, true)
		checkAsk(t, p, 1, 1, false, "q", true, b == none)
	}
}

// A range that has passed its line still goes on, if A ends in an error.
func TestARangeThatHasPassedItsLineBehindAnError(t *testing.T) {
	p := picker(t, api.Row{A: match(tooMany), B: line(4)}, api.Row{A: match(""), B: line(4)})
	checkAsk(t, p, 0, 2, false, "", true, false)
	checkAsk(t, p, 1, 2, false, "", true, false)
	checkRefused(t, p, 0, 7, false, many, api.ErrWays)
	checkRefused(t, p, 1, 7, true, many, api.ErrWays)
	p.Use(read(t, "x"))
	checkRefused(t, p, 0, 7, false, strings.Repeat("b", api.MaxSpace+1), api.ErrSpace)
	checkLast(t, p, tooMany)
	p.Use(read(t, "x"))
	checkAsk(t, p, 0, 3, false, many, true, false)
	checkAsk(t, p, 1, 4, false, many, true, true)
	checkLast(t, p, "x")
}

// The BRE used last stays so behind an error, too.
func TestTheBreUsedLastBehindAnError(t *testing.T) {
	long := strings.Repeat("b", api.MaxSpace+1)
	p := picker(t, api.Row{A: match("a")}, api.Row{A: match(tooMany)}, api.Row{A: match("")}, api.Row{A: match("c")})
	checkRefused(t, p, 0, 1, false, long, api.ErrSpace)
	checkLast(t, p, "a")
	checkRefused(t, p, 1, 1, false, many, api.ErrWays)
	checkLast(t, p, tooMany)
	checkRefused(t, p, 2, 1, false, many, api.ErrWays)
	checkLast(t, p, tooMany)
	checkRefused(t, p, 3, 1, false, long, api.ErrSpace)
	checkRefused(t, p, 2, 1, false, long, api.ErrSpace)
	checkAsk(t, p, 2, 1, false, "c", true, true)
	// A row that there isn't uses none.
	checkRefused(t, p, 4, 1, false, "a", api.ErrArg)
	checkLast(t, p, "c")
}

// A space that no BRE looks at may have any length.
func TestSpacesThatAreNotLookedAt(t *testing.T) {
	long := strings.Repeat("\n", 5*api.MaxSpace)
	checkRow(t, api.Row{}, asked{1, false, long, true, true})
	checkRow(t, api.Row{A: line(1), B: line(2)}, asked{1, false, long, true, false}, asked{2, false, long, true, true})
	checkRow(t, api.Row{A: end, B: match("a")}, asked{1, true, long, true, false})
	checkRow(t, api.Row{A: match("a"), B: end}, asked{1, false, "a", true, false}, asked{2, true, long, true, true})
}

func TestTheOrderOfAsksErrors(t *testing.T) {
	long := strings.Repeat("b", api.MaxSpace+1)
	p := picker(t, api.Row{A: match("")})
	for _, i := range []int{-1, 1, 2, math.MinInt, math.MaxInt} {
		checkRefused(t, p, i, 1, false, long, api.ErrArg)
	}
	checkRefused(t, p, 0, 1, false, long, api.ErrLast)
	var no *Picker
	checkRefused(t, no, -1, 1, false, long, api.ErrState)
}

func TestRowsKnowNothingOfOneAnother(t *testing.T) {
	row := api.Row{A: line(2), B: line(4)}
	p := picker(t, row, row, api.Row{A: match("a"), B: match("b")}, api.Row{A: match("a"), B: match("b")})
	checkAsk(t, p, 0, 2, false, "", true, false)
	checkAsk(t, p, 1, 3, false, "", false, true)
	checkAsk(t, p, 0, 3, false, "", true, false)
	checkAsk(t, p, 2, 3, false, "a", true, false)
	checkAsk(t, p, 3, 3, false, "x", false, true)
	checkAsk(t, p, 3, 3, false, "b", false, true)
	checkAsk(t, p, 2, 3, false, "x", true, false)
	checkAsk(t, p, 1, 2, false, "", true, false)
	checkAsk(t, p, 0, 4, false, "", true, true)
	checkAsk(t, p, 1, 3, false, "", true, false)
	// Two pickers of the same rows don't, either.
	other := picker(t, row)
	checkAsk(t, other, 0, 3, false, "", false, true)
	checkLast(t, other, "-")
}

func TestANilPicker(t *testing.T) {
	var p *Picker
	if p.Last() != nil {
		t.Error("a nil picker has a BRE used last")
	}
	p.Use(read(t, "a"))
	p.Use(nil)
	if p.Last() != nil {
		t.Error("a nil picker has a BRE used last")
	}
	checkRefused(t, p, 0, 1, true, "a", api.ErrState)
}

func TestArgumentsAreNotKept(t *testing.T) {
	text, space := []byte("a"), []byte("a")
	rows := []api.Row{
		{A: match(unsafe.String(&text[0], 1)), B: line(3)},
		{A: line(1)},
		{A: end, Not: true},
		{A: line(7)},
	}
	p := picker(t, rows[:3]...)
	if rows[0].A.Re != "a" || rows[0].B != line(3) || rows[1] != (api.Row{A: line(1)}) || rows[2] != (api.Row{A: end, Not: true}) || rows[3] != (api.Row{A: line(7)}) {
		t.Errorf("New has changed the rows to %v", rows)
	}
	text[0] = 'b'
	clear(rows)
	checkRefused(t, p, 3, 7, false, "a", api.ErrArg)
	checkAsk(t, p, 0, 1, false, unsafe.String(&space[0], 1), true, false)
	space[0] = 'b'
	checkLast(t, p, "a")
	checkAsk(t, p, 0, 3, false, "b", true, true)
	checkAsk(t, p, 0, 3, false, "b", false, true)
	checkAsk(t, p, 1, 1, false, "", true, true)
	checkAsk(t, p, 1, 2, false, "", false, true)
	checkAsk(t, p, 2, 2, true, "", false, true)
}

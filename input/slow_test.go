package input

import (
	"math/rand"
	"strings"
	"testing"

	"runnel/api"
)

// A second queue: all lines that ever came, and how many of them were taken.

type slowQueue struct {
	came   string // each line, and a newline
	taken  int
	closed bool
}

// waiting answers the lines that wait.
func (q *slowQueue) waiting() []string {
	all := strings.SplitAfter(q.came, "\n")
	return all[q.taken : len(all)-1]
}

func (q *slowQueue) state() state {
	wait := q.waiting()
	count := len(wait)
	held := len(strings.Join(wait, "")) - count
	return state{q.closed || count > 1, q.closed && count == 0, q.taken, count, held}
}

func (q *slowQueue) Feed(line string) api.Errno {
	if q.closed {
		return api.ErrState
	}
	if strings.Count(line, "\n") > 0 {
		return api.ErrText
	}
	if len(line) > 1024 {
		return api.ErrSpace
	}
	q.came += line + "\n"
	return api.OK
}

func (q *slowQueue) Close() api.Errno {
	if q.closed {
		return api.ErrState
	}
	q.closed = true
	return api.OK
}

func (q *slowQueue) Next() (string, bool) {
	wait := q.waiting()
	if len(wait) > 1 || len(wait) == 1 && q.closed {
		q.taken++
		return strings.TrimSuffix(wait[0], "\n"), true
	}
	return "", false
}

// fed are the lines of these tests.
var fed = []string{"a", "bc", "", "x\ny", strings.Repeat("z", 1024), strings.Repeat("z", 1025)}

// calls is how many calls do knows.
const calls = 8

// do makes one call of both queues, and holds all that they tell against each other.
func do(t *testing.T, q *Queue, slow *slowQueue, call int) (e api.Errno, found bool) {
	t.Helper()
	want, line, wantLine, wantFound := api.OK, "", "", false
	switch call {
	case 6:
		e, want = q.Close(), slow.Close()
	case 7:
		line, found = q.Next()
		wantLine, wantFound = slow.Next()
	default:
		e, want = q.Feed(fed[call]), slow.Feed(fed[call])
	}
	if e != want || line != wantLine || found != wantFound {
		t.Fatalf("behind %.60q: the call %d answers %d, %.40q, %v, want %d, %.40q, %v", slow.came, call, e, line, found, want, wantLine, wantFound)
	}
	if got, want := now(q), slow.state(); got != want {
		t.Fatalf("behind %.60q and the call %d: %+v, want %+v", slow.came, call, got, want)
	}
	return e, found
}

// All lists of a few calls.
func TestAllShortListsOfCalls(t *testing.T) {
	const most = 5
	count, lines := map[api.Errno]int{}, 0
	total := 1
	for range most {
		total *= calls
	}
	for list := range total {
		q, slow := New(), &slowQueue{}
		for rest := list; rest > 0; rest /= calls {
			e, found := do(t, q, slow, rest%calls)
			count[e]++
			if found {
				lines++
			}
		}
	}
	for _, e := range []api.Errno{api.OK, api.ErrState, api.ErrText, api.ErrSpace} {
		if count[e] < 1000 {
			t.Errorf("the error %d was met %d times only", e, count[e])
		}
	}
	if lines < 1000 {
		t.Errorf("%d lines were taken only", lines)
	}
}

func TestRandomCalls(t *testing.T) {
	random := rand.New(rand.NewSource(23))
	for range 300 {
		q, slow := New(), &slowQueue{}
		for step := range 100 {
			call := random.Intn(calls)
			switch {
			case random.Intn(3) == 0:
				call = 7
			case call == 6 && step < 70:
				call = 1
			}
			do(t, q, slow, call)
		}
	}
}

package input

import (
	"strings"
	"testing"
	"unsafe"

	"runnel/api"
)

// state is all that a queue tells of itself.
type state struct {
	ready, last           bool
	number, waiting, held int
}

// now answers what a queue tells of itself.
func now(q *Queue) state {
	return state{q.Ready(), q.Last(), q.Number(), q.Waiting(), q.Held()}
}

// checkState holds what a queue tells of itself against what it must be.
func checkState(t *testing.T, q *Queue, ready, last bool, number, waiting, held int) {
	t.Helper()
	if got, want := now(q), (state{ready, last, number, waiting, held}); got != want {
		t.Errorf("the queue tells %+v, want %+v", got, want)
	}
}

// checkFeed holds Feed against an error; behind one, nothing has changed.
func checkFeed(t *testing.T, q *Queue, line string, want api.Errno) {
	t.Helper()
	before := now(q)
	if e := q.Feed(line); e != want {
		t.Errorf("Feed(%.40q) = %d, want %d", line, e, want)
	}
	if want != api.OK && now(q) != before {
		t.Errorf("Feed(%.40q), refused, has made %+v of %+v", line, now(q), before)
	}
}

// checkNext holds Next against a line.
func checkNext(t *testing.T, q *Queue, want string) {
	t.Helper()
	if line, found := q.Next(); line != want || !found {
		t.Errorf("Next = %.40q, %v, want %.40q", line, found, want)
	}
}

// checkNothing holds Next against that there is nothing, and that nothing has changed.
func checkNothing(t *testing.T, q *Queue) {
	t.Helper()
	before := now(q)
	if line, found := q.Next(); line != "" || found {
		t.Errorf("Next = %.40q, %v, want nothing", line, found)
	}
	if now(q) != before {
		t.Errorf("Next, without a line, has made %+v of %+v", now(q), before)
	}
}

// checkClose holds Close against an error.
func checkClose(t *testing.T, q *Queue, want api.Errno) {
	t.Helper()
	if e := q.Close(); e != want {
		t.Errorf("Close = %d, want %d", e, want)
	}
}

func TestTheChaptersExample(t *testing.T) {
	q := New()
	checkFeed(t, q, "a", api.OK)
	checkState(t, q, false, false, 0, 1, 1)
	checkNothing(t, q)
	checkFeed(t, q, "bc", api.OK)
	checkState(t, q, true, false, 0, 2, 3)
	checkNext(t, q, "a")
	checkState(t, q, false, false, 1, 1, 2)
	checkClose(t, q, api.OK)
	checkState(t, q, true, false, 1, 1, 2)
	checkNext(t, q, "bc")
	checkState(t, q, true, true, 2, 0, 0)
	checkFeed(t, q, "d", api.ErrState)
	checkClose(t, q, api.ErrState)
	checkState(t, q, true, true, 2, 0, 0)
}

func TestAQueueWithoutLines(t *testing.T) {
	q := New()
	checkState(t, q, false, false, 0, 0, 0)
	checkNothing(t, q)
	checkClose(t, q, api.OK)
	checkState(t, q, true, true, 0, 0, 0)
	checkNothing(t, q)
	checkState(t, q, true, true, 0, 0, 0)
}

func TestEmptyLinesAreLines(t *testing.T) {
	q := New()
	checkFeed(t, q, "", api.OK)
	checkState(t, q, false, false, 0, 1, 0)
	checkFeed(t, q, "", api.OK)
	checkState(t, q, true, false, 0, 2, 0)
	checkNext(t, q, "")
	checkNothing(t, q)
	checkClose(t, q, api.OK)
	checkState(t, q, true, false, 1, 1, 0)
	checkNext(t, q, "")
	checkState(t, q, true, true, 2, 0, 0)
}

func TestLinesAreAnyBytes(t *testing.T) {
	q := New()
	for b := range 256 {
		want := api.OK
		if b == 10 {
			want = api.ErrText
		}
		checkFeed(t, q, "x"+string([]byte{byte(b)}), want)
	}
	checkState(t, q, true, false, 0, 255, 510)
	checkClose(t, q, api.OK)
	for b := range 256 {
		if b != 10 {
			checkNext(t, q, "x"+string([]byte{byte(b)}))
		}
	}
	checkState(t, q, true, true, 255, 0, 0)
}

func TestNewlinesAndLongLines(t *testing.T) {
	q := New()
	longest := strings.Repeat("x", api.MaxSpace)
	checkFeed(t, q, longest, api.OK)
	checkFeed(t, q, longest+"x", api.ErrSpace)
	checkFeed(t, q, strings.Repeat(longest, 9), api.ErrSpace)
	checkFeed(t, q, longest, api.OK)
	checkState(t, q, true, false, 0, 2, 2*api.MaxSpace)
	for _, line := range []string{"\n", "\na", "a\n", "a\nb", longest[1:] + "\n", longest + "\n", "\n" + longest} {
		checkFeed(t, q, line, api.ErrText)
	}
	checkNext(t, q, longest)
	checkClose(t, q, api.OK)
	for _, line := range []string{"", "a", "\n", longest + "x", longest + "\n"} {
		checkFeed(t, q, line, api.ErrState)
	}
	checkNext(t, q, longest)
	checkState(t, q, true, true, 2, 0, 0)
}

// The queue as a whole has no bound of its own.
func TestManyLines(t *testing.T) {
	q := New()
	line := strings.Repeat("x", 100)
	for i := range 5000 {
		checkFeed(t, q, line[:i%100], api.OK)
	}
	checkState(t, q, true, false, 0, 5000, 5000*99/2)
	for i := range 4999 {
		checkNext(t, q, line[:i%100])
	}
	checkState(t, q, false, false, 4999, 1, 99)
	for i := range 5000 {
		checkFeed(t, q, line[:i%100], api.OK)
		want := line[:99]
		if i > 0 {
			want = line[:(i-1)%100]
		}
		checkNext(t, q, want)
		checkNothing(t, q)
	}
	checkState(t, q, false, false, 9999, 1, 99)
}

func TestQueuesKnowNothingOfOneAnother(t *testing.T) {
	one, other := New(), New()
	checkFeed(t, one, "a", api.OK)
	checkFeed(t, other, "b", api.OK)
	checkClose(t, one, api.OK)
	checkFeed(t, other, "c", api.OK)
	checkNext(t, one, "a")
	checkNext(t, other, "b")
	checkState(t, one, true, true, 1, 0, 0)
	checkState(t, other, false, false, 1, 1, 1)
}

func TestANilQueue(t *testing.T) {
	var q *Queue
	checkState(t, q, false, false, 0, 0, 0)
	for _, line := range []string{"", "a", "\n", strings.Repeat("x", api.MaxSpace+1)} {
		checkFeed(t, q, line, api.ErrState)
	}
	checkClose(t, q, api.ErrState)
	checkNothing(t, q)
	checkState(t, q, false, false, 0, 0, 0)
}

func TestArgumentsAreNotKept(t *testing.T) {
	q := New()
	bytes := []byte("abc")
	checkFeed(t, q, unsafe.String(&bytes[0], 3), api.OK)
	copy(bytes, "x\ny")
	checkFeed(t, q, "d", api.OK)
	checkNext(t, q, "abc")
}

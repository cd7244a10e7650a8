package lines

import (
	"math"
	"slices"
	"strings"
	"testing"

	"runnel/api"
)

// plainCut cuts byte by byte, as P1.1 says it: the model that the package is held against.
func plainCut(text string) []string {
	var list []string
	begin := 0
	for i := range len(text) {
		if text[i] == 10 {
			list = append(list, text[begin:i])
			begin = i + 1
		}
	}
	if begin < len(text) {
		list = append(list, text[begin:])
	}
	return list
}

// texts answers all texts of at most six bytes over a few telling ones, and some greater ones.
func texts() []string {
	list := []string{""}
	for begin, length := 0, 0; length < 6; length++ {
		end := len(list)
		for _, text := range list[begin:end] {
			for _, b := range []string{"\n", "a", "\r", "\xff"} {
				list = append(list, text+b)
			}
		}
		begin = end
	}
	var every [256]byte
	for b := range every {
		every[b] = byte(b)
	}
	return append(list, string(every[:]), strings.Repeat("ab\n\n", 5000), strings.Repeat("x", 70000), "\x00\n\x00")
}

func gather(text string) []string {
	var list []string
	for _, line := range All(text) {
		list = append(list, line)
	}
	return list
}

func TestCutNamedEdges(t *testing.T) {
	for _, c := range []struct {
		text string
		want []string
	}{
		{"", nil},
		{"\n", []string{""}},
		{"a", []string{"a"}},
		{"a\n", []string{"a"}},
		{"a\nb", []string{"a", "b"}},
		{"a\n\n", []string{"a", ""}},
		{"\n\n", []string{"", ""}},
		{"\na", []string{"", "a"}},
		{"a\r\nb\vc\fd\u2028e", []string{"a\r", "b\vc\fd\u2028e"}},
		{"\xff\x00\n\xc3", []string{"\xff\x00", "\xc3"}},
	} {
		if got := Cut(c.text); !slices.Equal(got, c.want) {
			t.Errorf("Cut(%q) = %q, want %q", c.text, got, c.want)
		}
	}
}

func TestCutIsThePlainCut(t *testing.T) {
	for _, text := range texts() {
		if got, want := Cut(text), plainCut(text); !slices.Equal(got, want) {
			t.Fatalf("Cut(%.40q) = %.80q, want %.80q", text, got, want)
		}
	}
}

func TestAllNumbersTheLinesFromOne(t *testing.T) {
	for _, text := range texts() {
		want := plainCut(text)
		count := 0
		for number, line := range All(text) {
			count++
			if number != count || count > len(want) || line != want[count-1] {
				t.Fatalf("All(%.40q): %d, %.40q as the %d. of %d", text, number, line, count, len(want))
			}
		}
		if count != len(want) {
			t.Fatalf("All(%.40q) gave %d lines, want %d", text, count, len(want))
		}
	}
}

func TestAllLeftEarlyAndRangedAgain(t *testing.T) {
	all := All("a\nb\n\nc")
	want := []string{"a", "b", "", "c"}
	for leave := 1; leave <= len(want); leave++ {
		given := 0
		for number, line := range all {
			given++
			if number != given || line != want[given-1] {
				t.Errorf("leaving at %d: %d, %q", leave, number, line)
			}
			if given == leave {
				break
			}
		}
		if given != leave {
			t.Errorf("left at %d, but %d lines were given", leave, given)
		}
	}
	for range 2 {
		var again []string
		for number, line := range all {
			again = append(again, line)
			if number != len(again) {
				t.Errorf("again: number %d, want %d", number, len(again))
			}
		}
		if !slices.Equal(again, want) {
			t.Errorf("again: %q, want %q", again, want)
		}
	}
}

func TestAllRangedWithinItself(t *testing.T) {
	all := All("a\nb\nc\n")
	told := ""
	for _, outer := range all {
		for number, inner := range all {
			if number == 3 {
				break
			}
			told += outer + inner
		}
	}
	if told != "aaabbabbcacb" {
		t.Errorf("a range within a range told %q", told)
	}
}

func TestJoin(t *testing.T) {
	for _, c := range []struct {
		list []string
		want string
	}{
		{nil, ""},
		{[]string{}, ""},
		{[]string{""}, "\n"},
		{[]string{"a", ""}, "a\n\n"},
		{[]string{"a", "b"}, "a\nb\n"},
		{[]string{"a\n", "\nb"}, "a\n\n\nb\n"},
		{[]string{"\xff\x00"}, "\xff\x00\n"},
	} {
		if got := Join(c.list); got != c.want {
			t.Errorf("Join(%q) = %q, want %q", c.list, got, c.want)
		}
	}
}

func TestJoinLeavesTheListAndItsSpareRoom(t *testing.T) {
	room := []string{"a", "b", "spare", "more"}
	if got := Join(room[:2]); got != "a\nb\n" {
		t.Errorf("Join of a list with spare room = %q", got)
	}
	if got := Join(room[:0]); got != "" {
		t.Errorf("Join of an empty list with spare room = %q", got)
	}
	if !slices.Equal(room, []string{"a", "b", "spare", "more"}) {
		t.Errorf("Join changed what it was handed: %q", room)
	}
}

func TestNumber(t *testing.T) {
	for _, text := range texts() {
		if len(text) > 256 {
			continue
		}
		want := 1
		for at := 0; at <= len(text); at++ {
			if number, e := Number(text, at); number != want || e != api.OK {
				t.Fatalf("Number(%q, %d) = %d, %d, want %d", text, at, number, e, want)
			}
			if at < len(text) && text[at] == 10 {
				want++
			}
		}
	}
}

func TestNumberOutsideTheText(t *testing.T) {
	for _, text := range []string{"", "\n", "a\nb", "a\nb\n"} {
		for _, at := range []int{-1, -2, len(text) + 1, len(text) + 2, math.MinInt, math.MaxInt} {
			if number, e := Number(text, at); number != 0 || e != api.ErrArg {
				t.Errorf("Number(%q, %d) = %d, %d, want 0, ErrArg", text, at, number, e)
			}
		}
	}
}

func TestTail(t *testing.T) {
	for _, text := range texts() {
		all := plainCut(text)
		for _, n := range []int{1, 2, 3, 4, 5, 6, 7, len(all), len(all) + 1, math.MaxInt, 0, -1, math.MinInt} {
			want := all[len(all)-min(max(n, 0), len(all)):]
			if got := Tail(text, n); !slices.Equal(got, want) {
				t.Fatalf("Tail(%.40q, %d) = %.80q, want %.80q", text, n, got, want)
			}
		}
	}
}

func TestTailGoesRoundItsRing(t *testing.T) {
	for n, want := range []string{"", "g", "fg", "efg", "defg", "cdefg", "bcdefg", "abcdefg", "abcdefg"} {
		if got := strings.Join(Tail("a\nb\nc\nd\ne\nf\ng", n), ""); got != want {
			t.Errorf("Tail of %d = %q, want %q", n, got, want)
		}
	}
}

func TestJoinAndCutTurnEachOtherBack(t *testing.T) {
	for _, text := range texts() {
		want := text
		if text != "" && !strings.HasSuffix(text, "\n") {
			want += "\n"
		}
		if got := Join(Cut(text)); got != want {
			t.Fatalf("Join(Cut(%.40q)) = %.40q", text, got)
		}
	}
	for _, list := range [][]string{nil, {""}, {"", ""}, {"a"}, {"a", "", "b", ""}, {"\r", "\x00", "\xff"}} {
		if got := Cut(Join(list)); !slices.Equal(got, list) {
			t.Errorf("Cut(Join(%q)) = %q", list, got)
		}
	}
}

// overwrite changes a list's elements and all its spare room.
func overwrite(list []string) {
	list = list[:cap(list)]
	for i := range list {
		list[i] = "changed"
	}
}

func TestAnswersShareNoMemory(t *testing.T) {
	text := "a\nb\nc\nd\ne"
	for name, call := range map[string]func() []string{
		"Cut":     func() []string { return Cut(text) },
		"Tail 3":  func() []string { return Tail(text, 3) },
		"Tail 5":  func() []string { return Tail(text, 5) },
		"Tail 99": func() []string { return Tail(text, 99) },
	} {
		first, second := call(), call()
		kept := slices.Clone(second)
		overwrite(first)
		if !slices.Equal(second, kept) || !slices.Equal(call(), kept) || !slices.Equal(gather(text), plainCut(text)) {
			t.Errorf("%s: an answer shares memory with another one", name)
		}
	}
}

func TestAnswersHangOnTheArgumentsAlone(t *testing.T) {
	answer := func(text string) []string {
		number, _ := Number(text, len(text)/2)
		list := append(Cut(text), Tail(text, 2)...)
		return append(list, Join(list), strings.Repeat("|", number))
	}
	list := texts()
	var first [][]string
	for _, text := range list {
		first = append(first, answer(text))
	}
	for i, text := range slices.Backward(list) {
		if !slices.Equal(answer(text), first[i]) {
			t.Fatalf("%.40q is answered otherwise the second time", text)
		}
	}
}

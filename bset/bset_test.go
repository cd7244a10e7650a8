package bset

import (
	"slices"
	"testing"

	"runnel/api"
)

// setOf makes a set bit by bit, as DOC.md's section Words says where a byte's bit stands.
func setOf(list ...int) api.Set {
	var s api.Set
	for _, b := range list {
		s[b/64] |= 1 << (b % 64)
	}
	return s
}

// from answers the numbers from lo to hi.
func from(lo, hi int) []int {
	var list []int
	for b := lo; b <= hi; b++ {
		list = append(list, b)
	}
	return list
}

var everySet = api.Set{^uint64(0), ^uint64(0), ^uint64(0), ^uint64(0)}

// sets answers the empty set, the full one, all of one byte, all of all but one byte, and some mixed ones.
func sets() []api.Set {
	list := []api.Set{{}, everySet, {1, 0, 0, 1 << 63}, {0x5555555555555555, 0xaaaaaaaaaaaaaaaa, 1, 0xdeadbeef01234567}}
	for b := range 256 {
		one := setOf(b)
		list = append(list, one)
		for i := range one {
			one[i] = ^one[i]
		}
		list = append(list, one)
	}
	return list
}

// in asks the bit itself.
func in(s api.Set, b int) bool {
	return s[b/64]&(1<<(b%64)) != 0
}

func gather(s api.Set) []byte {
	var list []byte
	for b := range Members(s) {
		list = append(list, b)
	}
	return list
}

func TestOf(t *testing.T) {
	var all [256]byte
	for b := range all {
		all[b] = byte(b)
		if got := Of(string([]byte{byte(b)})); got != setOf(b) {
			t.Errorf("Of the byte %d = %x", b, got)
		}
	}
	for text, want := range map[string]api.Set{
		"":             {},
		"abba":         setOf('a', 'b'),
		"\x00\xff":     setOf(0, 255),
		"é":            setOf(0xc3, 0xa9),
		"\x3f\x40":     setOf(63, 64),
		"\x7f\x80\xc0": setOf(127, 128, 192),
		string(all[:]): everySet,
	} {
		if got := Of(text); got != want {
			t.Errorf("Of(%q) = %x, want %x", text, got, want)
		}
	}
}

func TestSpanOfEveryTwoBytes(t *testing.T) {
	for lo := range 256 {
		for hi := range 256 {
			want, wantE := api.Set{}, api.ErrRange
			if lo <= hi {
				want, wantE = setOf(from(lo, hi)...), api.OK
			}
			if got, e := Span(byte(lo), byte(hi)); got != want || e != wantE {
				t.Fatalf("Span(%d, %d) = %x, %d, want %x, %d", lo, hi, got, e, want, wantE)
			}
		}
	}
}

func TestClass(t *testing.T) {
	upper, lower, digit := from('A', 'Z'), from('a', 'z'), from('0', '9')
	punct := slices.Concat(from(33, 47), from(58, 64), from(91, 96), from(123, 126))
	for name, want := range map[string][]int{
		"upper":  upper,
		"lower":  lower,
		"digit":  digit,
		"alpha":  slices.Concat(upper, lower),
		"alnum":  slices.Concat(upper, lower, digit),
		"xdigit": slices.Concat(digit, from('A', 'F'), from('a', 'f')),
		"blank":  {9, 32},
		"space":  {9, 10, 11, 12, 13, 32},
		"graph":  from(33, 126),
		"print":  from(32, 126),
		"punct":  punct,
		"cntrl":  append(from(0, 31), 127),
	} {
		if got, e := Class(name); got != setOf(want...) || e != api.OK {
			t.Errorf("Class(%q) = %v, %d, want %v", name, gather(got), e, want)
		}
	}
}

func TestClassOfAWrongName(t *testing.T) {
	for _, name := range []string{"", "Digit", "DIGIT", "digit ", " digit", "digi", "digits", "word", "ascii", ":digit:", "digit\x00", "a", "\xff"} {
		if got, e := Class(name); got != (api.Set{}) || e != api.ErrClass {
			t.Errorf("Class(%q) = %x, %d, want the empty set, ErrClass", name, got, e)
		}
	}
}

func TestNotOrAnd(t *testing.T) {
	list := sets()
	for i, a := range list {
		b := list[(i*7+3)%len(list)]
		not, or, and := Not(a), Or(a, b), And(a, b)
		for c := range 256 {
			if in(not, c) == in(a, c) || in(or, c) != (in(a, c) || in(b, c)) || in(and, c) != (in(a, c) && in(b, c)) {
				t.Fatalf("the byte %d of Not, Or, And of %x and %x", c, a, b)
			}
		}
	}
	if Not(api.Set{}) != everySet || Not(everySet) != (api.Set{}) {
		t.Error("Not of the empty set and of the set of all bytes")
	}
}

func TestHasAndCount(t *testing.T) {
	for _, s := range sets() {
		count := 0
		for b := range 256 {
			if Has(s, byte(b)) != in(s, b) {
				t.Fatalf("Has(%x, %d) = %t", s, b, Has(s, byte(b)))
			}
			if in(s, b) {
				count++
			}
		}
		if Count(s) != count {
			t.Fatalf("Count(%x) = %d, want %d", s, Count(s), count)
		}
	}
	if Count(api.Set{}) != 0 || Count(everySet) != 256 || Count(Of("abba")) != 2 {
		t.Error("Count of the empty set, of all bytes, of a and b")
	}
}

func TestMembers(t *testing.T) {
	for _, s := range sets() {
		var want []byte
		for b := range 256 {
			if in(s, b) {
				want = append(want, byte(b))
			}
		}
		if got := gather(s); !slices.Equal(got, want) {
			t.Fatalf("Members(%x) = %v, want %v", s, got, want)
		}
	}
	if got := string(gather(Of("ba"))); got != "ab" {
		t.Errorf("Members of b and a = %q", got)
	}
}

func TestMembersLeftEarlyAndRangedAgain(t *testing.T) {
	want := "\x00?@abc\xff"
	members := Members(Of("cba\xff\x00@?"))
	for leave := 1; leave <= len(want); leave++ {
		told := ""
		for b := range members {
			told += string([]byte{b})
			if len(told) == leave {
				break
			}
		}
		if told != want[:leave] {
			t.Errorf("left behind %d bytes: %q, want %q", leave, told, want[:leave])
		}
	}
	for range 2 {
		if again := string(slices.Collect(members)); again != want {
			t.Errorf("again: %q, want %q", again, want)
		}
	}
}

func TestMembersOfASetThatIsChangedAfterwards(t *testing.T) {
	s := Of("ab")
	members := Members(s)
	s[1] = 0
	if got := string(slices.Collect(members)); got != "ab" {
		t.Errorf("Members tells %q of a set that was a and b when it was handed in", got)
	}
}

func TestCallsLeaveTheSetsTheyAreHanded(t *testing.T) {
	a, b := Of("abc"), Of("bcd")
	Not(a)
	Or(a, b)
	And(a, b)
	Count(a)
	gather(a)
	if a != setOf('a', 'b', 'c') || b != setOf('b', 'c', 'd') {
		t.Error("a set that was handed in has changed")
	}
}

func TestAnswersHangOnTheArgumentsAlone(t *testing.T) {
	answer := func(s api.Set) api.Set {
		members := Of(string(gather(s)))
		span, _ := Span(0, byte(Count(s)))
		punct, _ := Class("punct")
		return Or(And(members, Not(punct)), span)
	}
	list := sets()
	var first []api.Set
	for _, s := range list {
		first = append(first, answer(s))
	}
	for i, s := range slices.Backward(list) {
		if answer(s) != first[i] {
			t.Fatalf("%x is answered otherwise the second time", s)
		}
	}
}

package setmatch

import (
	"math/rand"
	"slices"
	"testing"
)

// numbersOf answers the numbers of a set bit by bit.
func numbersOf(s positions) []int {
	var list []int
	for number := range 256 {
		if s[number/64]>>(number%64)&1 == 1 {
			list = append(list, number)
		}
	}
	return list
}

// setOf answers the set of those numbers of a list that a set can have.
func setOf(list ...int) positions {
	var s positions
	for _, number := range list {
		if number >= 0 && number < 256 {
			s.add(number)
		}
	}
	return s
}

// moved answers a list with every number greater by some.
func moved(list []int, by int) []int {
	list = slices.Clone(list)
	for i := range list {
		list[i] += by
	}
	return list
}

func TestPositionsMove(t *testing.T) {
	chance := rand.New(rand.NewSource(1))
	lists := [][]int{{}, {0}, {63}, {64}, {255}, {0, 63, 64, 127, 128, 191, 192, 255}}
	for range 20 {
		lists = append(lists, numbersOf(positions{chance.Uint64(), chance.Uint64(), chance.Uint64(), chance.Uint64()}))
	}
	for _, list := range lists {
		for by := range 257 {
			if s := setOf(list...).up(by); s != setOf(moved(list, by)...) {
				t.Fatalf("%v up by %d = %v", list, by, numbersOf(s))
			}
			if s := setOf(list...).down(by); s != setOf(moved(list, -by)...) {
				t.Fatalf("%v down by %d = %v", list, by, numbersOf(s))
			}
		}
	}
}

func TestPositionsTogether(t *testing.T) {
	a, b := setOf(1, 63, 64, 200, 255), setOf(0, 63, 65, 200)
	for name, c := range map[string]struct{ got, want positions }{
		"or":      {a.or(b), setOf(0, 1, 63, 64, 65, 200, 255)},
		"and":     {a.and(b), setOf(63, 200)},
		"without": {a.without(b), setOf(1, 64, 255)},
	} {
		if c.got != c.want {
			t.Errorf("%s: %v, want %v", name, numbersOf(c.got), numbersOf(c.want))
		}
	}
	if a != setOf(1, 63, 64, 200, 255) || b != setOf(0, 63, 65, 200) {
		t.Error("a set has changed")
	}
	for number := range 256 {
		one := setOf(number)
		if one.none() || !one.meets(setOf(number)) || one.meets(setOf((number+1)%256, (number+64)%256)) || one.meets(positions{}) {
			t.Errorf("the set of %d", number)
		}
	}
	if !(positions{}).none() {
		t.Error("the empty set is not empty")
	}
}

func TestPositionsAreGoneThroughRising(t *testing.T) {
	for _, list := range [][]int{nil, {0}, {255}, {63, 64}, {0, 1, 62, 63, 64, 127, 128, 190, 255}} {
		if got := slices.Collect(setOf(list...).all()); !slices.Equal(got, list) {
			t.Errorf("%v gives %v", list, got)
		}
	}
	for number := range setOf(5, 70, 200).all() {
		if number == 70 {
			break
		}
	}
}

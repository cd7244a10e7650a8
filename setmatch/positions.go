package setmatch

import (
	"iter"
	"math/bits"

	"runnel/api"
)

// wordSize is how many positions one word of a set holds.
const wordSize = 64

// positions is a set of positions, by their numbers from 0 on: a BRE has at most MaxRe of them.
type positions [api.MaxRe / wordSize]uint64

// add puts a position into a set.
func (s *positions) add(number int) {
	s[number/wordSize] |= 1 << (number % wordSize)
}

// none tells whether a set is empty.
func (s positions) none() bool {
	return s == positions{}
}

// or is the set of what is in s or in t.
func (s positions) or(t positions) positions {
	for i, word := range t {
		s[i] |= word
	}
	return s
}

// and is the set of what is in both.
func (s positions) and(t positions) positions {
	for i, word := range t {
		s[i] &= word
	}
	return s
}

// without is the set of what is in s and not in t.
func (s positions) without(t positions) positions {
	for i, word := range t {
		s[i] &^= word
	}
	return s
}

// meets tells whether two sets have a position in common.
func (s positions) meets(t positions) bool {
	for i, word := range t {
		if s[i]&word != 0 {
			return true
		}
	}
	return false
}

// up is the set with every number greater by some. A shift by a whole word leaves nothing of it, so that there is no carry then.
func (s positions) up(by int) positions {
	var moved positions
	words, rest := by/wordSize, by%wordSize
	for i := words; i < len(s); i++ {
		moved[i] = s[i-words] << rest
		if i > words {
			moved[i] |= s[i-words-1] >> (wordSize - rest)
		}
	}
	return moved
}

// down is the set with every number less by some, without those that would be below 0.
func (s positions) down(by int) positions {
	var moved positions
	words, rest := by/wordSize, by%wordSize
	for i := words; i < len(s); i++ {
		moved[i-words] = s[i] >> rest
		if i+1 < len(s) {
			moved[i-words] |= s[i+1] << (wordSize - rest)
		}
	}
	return moved
}

// all gives the numbers of a set, rising.
func (s positions) all() iter.Seq[int] {
	return func(yield func(int) bool) {
		for i, word := range s {
			// Takes the lowest number out of the word until none is left.
			for ; word != 0; word &= word - 1 {
				if !yield(i*wordSize + bits.TrailingZeros64(word)) {
					return
				}
			}
		}
	}
}

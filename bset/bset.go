// Package bset is layer 2: see shared/doc/02-bset.md.
package bset

import (
	"iter"
	"math/bits"

	"runnel/api"
)

// Of is the set of a text's bytes.
func Of(text string) api.Set {
	var s api.Set
	// A range over the text itself would give runes.
	for i := range len(text) {
		s = with(s, text[i])
	}
	return s
}

// Span is the set of the bytes from lo to hi.
func Span(lo, hi byte) (api.Set, api.Errno) {
	if hi < lo {
		return api.Set{}, api.ErrRange
	}
	return stretch(lo, hi), api.OK
}

// Class is the set of a class's bytes.
func Class(name string) (api.Set, api.Errno) {
	upper, lower, digit := stretch('A', 'Z'), stretch('a', 'z'), stretch('0', '9')
	alpha := Or(upper, lower)
	alnum := Or(alpha, digit)
	graph := stretch(33, 126)
	switch name {
	case "upper":
		return upper, api.OK
	case "lower":
		return lower, api.OK
	case "digit":
		return digit, api.OK
	case "alpha":
		return alpha, api.OK
	case "alnum":
		return alnum, api.OK
	case "xdigit":
		return Or(digit, Or(stretch('A', 'F'), stretch('a', 'f'))), api.OK
	case "blank":
		return Of(" \t"), api.OK
	case "space":
		return with(stretch(9, 13), ' '), api.OK
	case "graph":
		return graph, api.OK
	case "print":
		return with(graph, ' '), api.OK
	case "punct":
		return And(graph, Not(alnum)), api.OK
	case "cntrl":
		return with(stretch(0, 31), 127), api.OK
	}
	return api.Set{}, api.ErrClass
}

// Not is the set of all other bytes.
func Not(s api.Set) api.Set {
	var others api.Set
	for i, word := range s {
		others[i] = ^word
	}
	return others
}

// Or is the set of what is in a or in b.
func Or(a, b api.Set) api.Set {
	var either api.Set
	for i := range either {
		either[i] = a[i] | b[i]
	}
	return either
}

// And is the set of what is in both.
func And(a, b api.Set) api.Set {
	var both api.Set
	for i := range both {
		both[i] = a[i] & b[i]
	}
	return both
}

// Has tells whether a byte is in a set.
func Has(s api.Set, b byte) bool {
	return s[b/64]>>(b%64)&1 == 1
}

// Count answers how many bytes are in a set.
func Count(s api.Set) int {
	count := 0
	for _, word := range s {
		count += bits.OnesCount64(word)
	}
	return count
}

// Members gives the bytes of a set, rising.
func Members(s api.Set) iter.Seq[byte] {
	return func(yield func(byte) bool) {
		for b := range 256 {
			if Has(s, byte(b)) && !yield(byte(b)) {
				return
			}
		}
	}
}

// with is the set s and the byte b.
func with(s api.Set, b byte) api.Set {
	s[b/64] |= 1 << (b % 64)
	return s
}

// stretch is the set of the bytes from lo to hi, where hi is not below lo.
func stretch(lo, hi byte) api.Set {
	var s api.Set
	// Counted in ints, as a byte would wrap round behind 255 and the loop never end.
	for b := int(lo); b <= int(hi); b++ {
		s = with(s, byte(b))
	}
	return s
}

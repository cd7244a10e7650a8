// Package lines is layer 1: see shared/doc/01-lines.md.
package lines

import (
	"iter"
	"slices"
	"strings"

	"runnel/api"
)

const newline = "\n"

// All gives the lines of a text with their numbers, one at a time.
func All(text string) iter.Seq2[int, string] {
	return func(yield func(int, string) bool) {
		// What is left is held here and not outside, so that each range begins anew.
		rest := text
		for number := 1; rest != ""; number++ {
			line, behind, _ := strings.Cut(rest, newline)
			if !yield(number, line) {
				return
			}
			rest = behind
		}
	}
}

// Cut answers all lines of a text.
func Cut(text string) []string {
	var list []string
	for _, line := range All(text) {
		list = append(list, line)
	}
	return list
}

// Join puts a newline behind each text.
func Join(list []string) string {
	var joined strings.Builder
	for _, text := range list {
		joined.WriteString(text)
		joined.WriteString(newline)
	}
	return joined.String()
}

// Number answers in which line a place lies.
func Number(text string, at int) (int, api.Errno) {
	if at < 0 || at > len(text) {
		return 0, api.ErrArg
	}
	return 1 + strings.Count(text[:at], newline), api.OK
}

// Tail answers the last n lines: a ring of them is kept while the text is gone through.
func Tail(text string, n int) []string {
	if n <= 0 {
		return nil
	}
	// The ring grows with the lines that come, as n may be far greater than memory.
	var ring []string
	oldest := 0
	for _, line := range All(text) {
		if len(ring) < n {
			ring = append(ring, line)
			continue
		}
		ring[oldest] = line
		oldest = (oldest + 1) % n
	}
	return slices.Concat(ring[oldest:], ring[:oldest])
}

package slow

import (
	"slices"
	"strings"
	"testing"

	"runnel/api"
	"runnel/bre"
	"runnel/measure"
)

func read(t *testing.T, text string) (api.Re, int) {
	t.Helper()
	tree, fault := bre.Parse(text)
	known, _ := measure.Of(text)
	if fault.E != api.OK {
		t.Fatalf("%q is no BRE: %v", text, fault)
	}
	return tree, known.Groups
}

// The numbers that chapter 9 tells.
func TestCount(t *testing.T) {
	for _, c := range []struct {
		text, subject  string
		at, most, want int
	}{
		{`a*`, "aab", 0, 9, 3}, {`a*`, "aab", 2, 9, 1}, {`\(a*\)*`, "aaa", 0, 9, 8}, {`b`, "a", 0, 9, 0}, {``, "a", 0, 9, 1}, {`\(a*\)\1`, "aa", 0, 9, 6}, {`\(a*\)*`, strings.Repeat("a", 20), 0, 4096, 4097}, {`\(a*\)*`, "aaa", 0, 8, 8}, {`\(a*\)*`, "aaa", 0, 7, 8},
	} {
		tree, groups := read(t, c.text)
		if count := Count(tree, groups, c.subject, c.at, c.most); count != c.want {
			t.Errorf("Count(%q, %q, %d, %d) = %d, want %d", c.text, c.subject, c.at, c.most, count, c.want)
		}
	}
}

// Those that chapters 8 and 10 tell.
func TestBest(t *testing.T) {
	for _, c := range []struct {
		text, subject string
		want          []api.Span
	}{
		{`\(a*\)*b`, "aab", []api.Span{{From: 0, To: 3}, {From: 0, To: 2}}}, {`\(a*\)*b`, "b", []api.Span{{From: 0, To: 1}, {From: -1, To: -1}}}, {`\(a*\)\{1,\}b`, "b", []api.Span{{From: 0, To: 1}, {From: 0, To: 0}}},
		{`\(\(a\)*b\)*`, "aabb", []api.Span{{From: 0, To: 4}, {From: 3, To: 4}, {From: 1, To: 2}}}, {`\(a\{1,2\}\)\{2\}`, "aaa", []api.Span{{From: 0, To: 3}, {From: 2, To: 3}}},
		{`\(a*\)\1`, "aaa", []api.Span{{From: 0, To: 2}, {From: 0, To: 1}}}, {`\(a*\)b\1`, "aabaa", []api.Span{{From: 0, To: 5}, {From: 0, To: 2}}}, {`\(a\)*\1`, "b", nil}, {`a`, "b", nil},
	} {
		tree, groups := read(t, c.text)
		if best, found := Best(tree, groups, c.subject, 0); !slices.Equal(best.Spans, c.want) || found != (c.want != nil) {
			t.Errorf("Best(%q, %q) = %v, %v, want %v", c.text, c.subject, best, found, c.want)
		}
	}
}

// A whole's length stands ahead of its parts'; of one place no two derivations have the same lengths.
func TestLengths(t *testing.T) {
	tree, groups := read(t, `\(a\{1,2\}\)b*`)
	var all [][]int
	for d := range All(tree, groups, "aab", 0, false) {
		all = append(all, d.Lengths)
	}
	slices.SortFunc(all, slices.Compare)
	// Of the whole, the group, what is in it, its repeat and the iterations; then the second repeat and its iterations.
	want := [][]int{{1, 1, 1, 1, 1, 0}, {2, 2, 2, 2, 1, 1, 0}, {3, 2, 2, 2, 1, 1, 1, 1}}
	if !slices.EqualFunc(all, want, slices.Equal[[]int]) {
		t.Errorf("the lengths are %v, want %v", all, want)
	}
}

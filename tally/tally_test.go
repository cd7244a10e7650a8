package tally

import (
	"testing"

	"runnel/api"
	"runnel/bre"
)

func parse(t *testing.T, text string) api.Re {
	t.Helper()
	tree, fault := bre.Parse(text)
	if fault.E != api.OK {
		t.Fatalf("%q is no BRE: %v", text, fault)
	}
	return tree
}

// A table from a later place on tells the same of the places that it knows, in whatever order it is asked.
func TestTablesFromLaterPlaces(t *testing.T) {
	subject := "aababbaab"
	for _, text := range []string{``, `a*`, `\(a*\)*b`, `\(.*\)\1`, `^\(a*\)b`, `\(.\{1,3\}\)*$`, `\(\(a\)*b\)*\2`} {
		tree := parse(t, text)
		whole := New(tree, subject, 0)
		for from := len(subject); from >= 0; from-- {
			part := New(tree, subject, from)
			for at := from; at <= len(subject); at++ {
				if a, b := whole.Ways(at), part.Ways(at); a != b {
					t.Errorf("%q: %d ways from %d, but %d by a table from %d on", text, a, at, b, from)
				}
			}
		}
	}
}

// Of a*b, the positions are a and b; only those from which an end is come to are live.
func TestLeads(t *testing.T) {
	table := New(parse(t, `a*b`), "aabac", 0)
	for place, want := range [][2]bool{1: {true, false}, 2: {true, false}, 3: {false, true}, 4: {false, false}, 5: {false, false}} {
		if place > 0 && (table.Leads(0, place) != want[0] || table.Leads(1, place) != want[1]) {
			t.Errorf("at %d: %v, %v, want %v", place, table.Leads(0, place), table.Leads(1, place), want)
		}
	}
	for at, want := range []bool{true, true, true, false, false, false} {
		if table.Enters(table.Whole, 0, at) != want {
			t.Errorf("a*b enters at %d: %v", at, !want)
		}
	}
	repeat := table.Whole.Links[0].Part
	for at := range 6 {
		if table.Nothing(table.Whole, at) || !table.Nothing(repeat, at) || table.Enters(repeat, 0, at) != (at < 2) {
			t.Errorf("at %d: a*b %v, a* %v, %v", at, table.Nothing(table.Whole, at), table.Nothing(repeat, at), table.Enters(repeat, 0, at))
		}
	}
}

// The links of a repeat: those that must be, those that may be, and those that come again and again.
func TestLinks(t *testing.T) {
	for text, want := range map[string]string{`a*`: "ffff", `a\{2\}`: "mm", `a\{1,3\}`: "mff", `a\{2,\}`: "mmff", `a\{0\}`: "", `\(\)\{3,9\}`: "m", `\(\)*`: "", `\(^\)\{2\}`: "m", `\(\)\{0,4\}`: ""} {
		repeat := lay(parse(t, text)).Links[0].Part
		found := ""
		for gone := range 4 {
			link, more := repeat.Link(gone)
			switch {
			case more && link.Free:
				found += "f"
			case more:
				found += "m"
			}
		}
		if found != want {
			t.Errorf("%q has the links %q, want %q", text, found, want)
		}
	}
}

// Numbers beyond MaxWays stay just beyond it, and never make a way out of none.
func TestCapped(t *testing.T) {
	huge := []step{{0, api.MaxWays + 1}, {3, 2}}
	for i, s := range times(sum(huge, huge), api.MaxWays+1) {
		if want := (step{[]int{0, 3}[i], api.MaxWays + 1}); s != want {
			t.Errorf("the step %v, want %v", s, want)
		}
	}
	if s := sum([]step{{1, 2}, {5, 1}}, []step{{0, 1}, {1, 3}, {7, 4}}); len(s) != 4 || s[0] != (step{0, 1}) || s[1] != (step{1, 5}) || s[2] != (step{5, 1}) || s[3] != (step{7, 4}) {
		t.Errorf("the sum %v", s)
	}
}
